/- Joined: Law5 Law6 Law7 Law8. -/
import Derived.Test.YtfaljekgpnbmiaaGreatH21
/-
  An append writes in place, or lays a new block and leaves all old ones as they were.
-/
namespace Go.Proofs.YtfaljekgpnbmiaaGreat
open Go.RowKit

section
variable {P : Program} (w : World)
theorem run_append_two (t ty : TypeId) (base : Nat) (e : TypeId) (i : TypeInfo) (z : Value) (size bytes : Nat) (ht : P.underlying t = some (.slice e)) (hi : P.info? e = some i) (hz : i.zero = some z)
    (hsize : i.size = size) (hby : i.bytes = bytes) (hzs : z.cells.size = size) (hsz : 0 < size)
    (v : Value) (n : Nat) (xs : List Value) (hown : w.ownsRow base e size v n xs)
    (ad : Addr) (m c : Nat) (news : List Value) (hl : news.length = m * size) (hnews : ∀ j u, news[j]? = some u → w.cell? (ad.add j) = some u) (h1 : ∀ u ∈ news, u.oneCell' = true)
    (hm : 0 < m) (h63 : n + m ≤ maxLen) (hbytes : (n + m) * bytes ≤ 140737488355328) (hbase : base ≤ w.heap.size) :
    ∃ g cap w', (Builtin.append_ #[t, t] ty #[v, .slice (some ad) m c]).run P w = .ok (.slice (some ⟨g, 0, none⟩) (n + m) cap) w' ∧
      w'.ownsRow base e size (.slice (some ⟨g, 0, none⟩) (n + m) cap) (n + m) (xs ++ news) ∧ ((v = .slice (some ⟨g, 0, none⟩) n cap ∧ w.grownBy w' (some g)) ∨ (g = w.heap.size ∧ w.grownBy w' none)) ∧ g < w'.heap.size := by
  obtain ⟨g, cap, w', hr, h2, h3, h4, h5⟩ := run_append_lies (P := P) w t ty base e i z size bytes ht hi hz hsize hby hzs hsz v n xs hown ad m c news hl hnews h1 hm h63 hbytes hbase _ rfl
  refine ⟨g, cap, w', hr, h2, ?_, h5⟩
  subst hsize
  subst hby
  have hown0 := hown
  rcases hown.2 with ⟨rfl, rfl⟩ | ⟨g0, cap0, cur, rfl, hbg, hg, hnc, hcm, hcs, htake⟩
  · right
    rcases h4 with h4 | h4
    · simp [Value.ownBlock] at h4
    · exact ⟨h4, h3⟩
  · by_cases hroom : n + m ≤ cap0
    · have hfit : n * i.size + news.length ≤ cur.size := by rw [hl, hcs, ← Nat.add_mul]; exact Nat.mul_le_mul_right _ hroom
      have hr2 := run_append_room (P := P) w t ty e i ht hi g0 n cap0 cur hg ad m c news hl hnews h1 hroom hfit
      rw [hr2] at hr
      injection hr with hr _
      injection hr with hr _ hc
      injection hr with hr
      injection hr with hr _ _
      subst hr
      subst hc
      exact .inl ⟨rfl, h3⟩
    · right
      have holds : ∀ j u, xs[j]? = some u → w.cell? ((⟨g0, 0, none⟩ : Addr).add j) = some u := hown0.cells (g := g0) rfl
      have hr2 := run_append_grow (P := P) w t ty e i z ht hi hz ⟨g0, 0, none⟩ n cap0 xs hown0.1 holds ad m c news hl hnews (by omega) (by simp only [maxLen] at h63; omega) (growslice_fits (by simp only [maxLen] at h63; omega) hbytes)
      rw [hr2] at hr
      injection hr with hr hw
      have e1 : w.heap.size = g := by injection hr with hr _ _; injection hr with hr; injection hr
      subst e1
      subst hw
      exact ⟨rfl, rfl, rfl, rfl, by simp, fun k hk _ => Below.heap_alloc w.drew _ k hk⟩
theorem wpList_append_two {ops : Array Oper} {rest : List Oper} {o : Oper} {a : Act} {Q : Exit → Act → World → Prop} (hgd : o.guard = none) (s x : Operand) (t : TypeId)
    (ho : o.op = .call { callee := .builtin .append, args := #[s, x], argTypes := #[t, t] })
    (base : Nat) (e : TypeId) (i : TypeInfo) (z : Value) (size bytes : Nat) (ht : P.underlying t = some (.slice e)) (hi : P.info? e = some i) (hz : i.zero = some z)
    (hsize : i.size = size) (hby : i.bytes = bytes) (hzs : z.cells.size = size) (hsz : 0 < size)
    (v : Value) (n : Nat) (xs : List Value) (hs : a.eval s = v) (hown : w.ownsRow base e size v n xs)
    (ad : Addr) (m c : Nat) (news : List Value) (hx : a.eval x = .slice (some ad) m c) (hl : news.length = m * size) (hnews : ∀ j u, news[j]? = some u → w.cell? (ad.add j) = some u) (h1 : ∀ u ∈ news, u.oneCell' = true)
    (hm : 0 < m) (h63 : n + m ≤ maxLen) (hbytes : (n + m) * bytes ≤ 140737488355328) (hbase : base ≤ w.heap.size)
    (h : ∀ g cap w', w'.ownsRow base e size (.slice (some ⟨g, 0, none⟩) (n + m) cap) (n + m) (xs ++ news) → ((v = .slice (some ⟨g, 0, none⟩) n cap ∧ w.grownBy w' (some g)) ∨ (g = w.heap.size ∧ w.grownBy w' none)) → g < w'.heap.size → wpList P ops Q rest (a.put o.dst (.slice (some ⟨g, 0, none⟩) (n + m) cap)) w') : wpList P ops Q (o :: rest) a w := by
  refine wpList_plain hgd fun _ hK => ?_
  obtain ⟨g, cap, w', hr, h2, h3, h4⟩ := run_append_two (P := P) w t o.type base e i z size bytes ht hi hz hsize hby hzs hsz v n xs hown ad m c news hl hnews h1 hm h63 hbytes hbase
  unfold Oper.wp execOp
  simp only [ho, resolve, invoke, builtin, Sem.run_bind, Sem.run_pure, Result.andThen_ok, List.map_toArray, List.map_cons, List.map_nil, hs, hx, hr]
  exact hK _ _ (h g cap w' h2 h3 h4)
end
end Go.Proofs.YtfaljekgpnbmiaaGreat

/-
  Where held lists lie, and what keeps them.
-/
namespace Go.Proofs.YtfaljekgpnbmiaaGreat
open Go.RowKit

/-- The rows of ints but that in block g are as they were. -/
def KeepX (g : Option Nat) (w w' : World) : Prop := ∀ (k : Nat) (cur : Array Value), w.heap[k]? = some (Obj.cells cur 3 (0, 0)) → g ≠ some k → w'.heap[k]? = w.heap[k]?
theorem KeepX.trans {g : Option Nat} {w w' w2 : World} (h : KeepX g w w') (h2 : KeepX g w' w2) : KeepX g w w2 := fun k cur hk hne => by
  have e1 := h k cur hk hne
  rw [h2 k cur (e1.trans hk) hne, e1]
theorem KeepX.of {g : Option Nat} {w w' : World} (h : KeepT 3 w w') : KeepX g w w' := fun k cur hk _ => h k cur hk
theorem KeepX.setCell (w : World) (g o : Nat) (u : Value) : KeepX (some g) w (w.setCell ⟨g, o, none⟩ u) := fun k _ _ hne => Below.heap_setCell _ _ _ _ (fun h => hne (by rw [h]))
theorem KeepX.grown {w w' : World} {g : Option Nat} (h : w.grownBy w' g) : KeepX g w w' := fun k _ hk hne => h.block k (lt_of_block hk) (fun h => hne h.symm)
theorem ints_keepX {B : Nat} {w w' : World} {v : Value} {l : List Int} {g : Option Nat} (h : IntsOwn B w v l) (hg : ∀ k, v.ownBlock = some k → g ≠ some k) (hk : KeepX g w w') : IntsOwn B w' v l := by
  refine ⟨h.1, ?_⟩
  rcases h.2 with hn | ⟨k, cap, cur, rfl, hb, hgg, rest⟩
  · exact .inl hn
  · exact .inr ⟨k, cap, cur, rfl, hb, by rw [hk k cur hgg (hg k rfl)]; exact hgg, rest⟩
theorem ints_write {B : Nat} {w : World} {g n cap : Nat} {l : List Int} (h : IntsOwn B w (.slice (some ⟨g, 0, none⟩) n cap) l) (k : Nat) (_ : k < l.length) (x : Int) : IntsOwn B (w.setCell ⟨g, k, none⟩ (.int .i64 x)) (.slice (some ⟨g, 0, none⟩) n cap) (l.set k x) := by
  refine ⟨by have := h.1; simp at this ⊢, ?_⟩
  rcases h.2 with ⟨hn, _⟩ | ⟨g', cap', cur, he, hb, hgg, hle, hm, hcs, htk⟩
  · cases hn
  · injection he with e1 e2 e3
    injection e1 with e1
    injection e1 with e1 _ _
    subst e1
    subst e3
    refine .inr ⟨g, cap, _, by rw [List.length_set, e2], hb, heap_setCell_same w g k _ _ _ hgg, by rw [List.length_set]; exact hle, hm, by simpa using hcs, ?_⟩
    rw [List.length_set, List.map_set, ← htk]
    simp [List.take_set, intV]
def entCellsH (ents : List (Value × Int)) : List Value := (ents.map fun e => [e.1, intV e.2]).flatten
structure HeldAt (B : Nat) (w : World) (b N : Nat) (ents : List (Value × Int)) (v : Value) : Prop where
  base : B ≤ b
  blk : w.heap[b]? = some (.cells #[.int .i64 N, v, .slice none 0 0, .slice none 0 0] 28 (0, 0))
  own : w.ownsRow B 78 2 v ents.length (entCellsH ents)
theorem HeldAt.keep {B : Nat} {w w' : World} {b N : Nat} {ents : List (Value × Int)} {v : Value} (h : HeldAt B w b N ents v) (h1 : KeepT 28 w w') (h2 : KeepT 78 w w') : HeldAt B w' b N ents v :=
  ⟨h.base, by rw [h1 b _ h.blk]; exact h.blk, own_keep h.own h2⟩
theorem HeldAt.mark {B : Nat} {w : World} {b N : Nat} {ents : List (Value × Int)} {v : Value} (h : HeldAt B w b N ents v) : HeldAt B (w.setCell ⟨b, 0, none⟩ (.int .i64 (N + 1 : Int))) b (N + 1) ents v :=
  ⟨h.base, by rw [heap_setCell_same w b 0 _ _ _ h.blk]; rfl, own_keep h.own (.setCell h.blk (by decide) _ _)⟩
/-- A held list reads as its mark. -/
def EntOk (w : World) (e : Value × Int) : Prop := ∃ k, IntsOwn 0 w e.1 (List.replicate k e.2)
theorem EntOk.keep {w w' : World} {e : Value × Int} {g : Option Nat} (h : EntOk w e) (hg : ∀ k, e.1.ownBlock = some k → g ≠ some k) (hk : KeepX g w w') : EntOk w' e := by
  obtain ⟨k, h⟩ := h; exact ⟨k, ints_keepX h hg hk⟩
theorem EntOk.keepT {w w' : World} {e : Value × Int} (h : EntOk w e) (hk : KeepT 3 w w') : EntOk w' e := by
  obtain ⟨k, h⟩ := h; exact ⟨k, own_keep h hk⟩
theorem EntOk.lt {w : World} {e : Value × Int} (h : EntOk w e) {k : Nat} (hk : e.1.ownBlock = some k) : k < w.heap.size := by
  obtain ⟨m, h⟩ := h
  rcases h.2 with ⟨hn, _⟩ | ⟨g, cap, cur, he, hb, hgg, _⟩
  · rw [hn] at hk; simp [Value.ownBlock] at hk
  · rw [he] at hk; simp [Value.ownBlock] at hk; subst hk; exact lt_of_block hgg
theorem ent_of_g {B : Nat} {w : World} {k glen gcap : Nat} {n : Int} (h : IntsOwn B w (.slice (some ⟨k, 0, none⟩) glen gcap) (List.replicate glen n)) (m : Nat) (hm : m ≤ glen) : EntOk w (.slice (some ⟨k, 0, none⟩) m gcap, n) := by
  refine ⟨m, by simp, ?_⟩
  rcases h.2 with ⟨hn, _⟩ | ⟨g', cap', cur, he, hb, hgg, hle, hmx, hcs, htk⟩
  · cases hn
  · injection he with e1 e2 e3
    injection e1 with e1
    injection e1 with e1 _ _
    subst e1
    subst e3
    refine .inr ⟨k, gcap, cur, by simp, Nat.zero_le _, hgg, by simp at hle ⊢; omega, hmx, hcs, ?_⟩
    have := congrArg (List.take m) htk
    simp only [List.take_take, List.length_replicate, Nat.mul_one] at this ⊢
    rw [Nat.min_eq_left hm] at this
    rw [this]
    simp [Nat.min_eq_left hm]
/-- A held list, while the list g is being written on: it is a front of g, or it lies elsewhere. -/
def EntG (w : World) (gad : Option Addr) (glen gcap : Nat) (n : Int) (e : Value × Int) : Prop :=
  (e.2 = n ∧ ∃ k m, gad = some ⟨k, 0, none⟩ ∧ e.1 = .slice (some ⟨k, 0, none⟩) m gcap ∧ m ≤ glen) ∨ (EntOk w e ∧ ∀ a, gad = some a → e.1.ownBlock ≠ some a.block)
theorem EntG.ok {B : Nat} {w : World} {gad : Option Addr} {glen gcap : Nat} {n : Int} {e : Value × Int} (h : EntG w gad glen gcap n e) (hg : IntsOwn B w (.slice gad glen gcap) (List.replicate glen n)) : EntOk w e := by
  rcases h with ⟨rfl, k, m, rfl, he, hm⟩ | ⟨h, _⟩
  · obtain ⟨e1, e2⟩ := e
    simp only at he
    subst he
    exact ent_of_g hg m hm
  · exact h
end Go.Proofs.YtfaljekgpnbmiaaGreat

/-
  What an append to the held lists, and one to the list written on, leaves.
-/
namespace Go.Proofs.YtfaljekgpnbmiaaGreat
open Go.RowKit

theorem entCellsH_snoc (ents : List (Value × Int)) (L : Value) (n : Int) : entCellsH (ents ++ [(L, n)]) = entCellsH ents ++ [L, intV n] := by simp [entCellsH]
theorem HeldAt.add {B : Nat} {w w2 : World} {b N : Nat} {ents : List (Value × Int)} {v v' : Value} (h : HeldAt B w b N ents v) (L : Value) (n : Int) (o : Obj) (hsz : B ≤ w.heap.size) (hg : (w.alloc o).grownBy w2 v.ownBlock) (ho : w2.ownsRow B 78 2 v' (ents.length + 1) (entCellsH ents ++ [L, intV n])) :
    HeldAt B (w2.setCell ⟨b, 1, none⟩ v') b N (ents ++ [(L, n)]) v' ∧ KeepT 3 w (w2.setCell ⟨b, 1, none⟩ v') ∧ Below B w (w2.setCell ⟨b, 1, none⟩ v') ∧ w2.heap[b]? = some (.cells #[.int .i64 N, v, .slice none 0 0, .slice none 0 0] 28 (0, 0)) := by
  have h1 : HeldAt B (w.alloc o) b N ents v := h.keep (.alloc _ _ _) (.alloc _ _ _)
  have k1 : KeepT 28 (w.alloc o) w2 := .grown h1.own hg (by decide)
  have k2 : KeepT 3 (w.alloc o) w2 := .grown h1.own hg (by decide)
  have hb : w2.heap[b]? = some (.cells #[.int .i64 N, v, .slice none 0 0, .slice none 0 0] 28 (0, 0)) := by rw [k1 b _ h1.blk]; exact h1.blk
  refine ⟨⟨h.base, by rw [heap_setCell_same w2 b 1 _ _ _ hb]; rfl, ?_⟩, ?_, ?_, hb⟩
  · have := own_keep ho (.setCell hb (by decide) 1 v')
    rw [entCellsH_snoc, List.length_append]
    exact this
  · exact ((KeepT.alloc _ w o).trans k2).trans (.setCell hb (by decide) 1 v')
  · exact (((Below.refl B w).alloc hsz o).grown hg (by simp; omega) (own_base h1.own)).setCell (p := ⟨b, 1, none⟩) h.base _
def Two (w w2 : World) (gad : Option Addr) (glen gcap g cap : Nat) : Prop :=
  (Value.slice gad glen gcap = .slice (some ⟨g, 0, none⟩) glen cap ∧ w.grownBy w2 (some g)) ∨ (g = w.heap.size ∧ w.grownBy w2 none)
theorem EntG.grow {B : Nat} {w w2 : World} {gad : Option Addr} {glen gcap g cap : Nat} {n : Int} {e : Value × Int} (h : EntG w gad glen gcap n e) (hg : IntsOwn B w (.slice gad glen gcap) (List.replicate glen n)) (o : Obj) (ht : Two (w.alloc o) w2 gad glen gcap g cap) : EntG w2 (some ⟨g, 0, none⟩) (glen + 1) cap n e := by
  rcases ht with ⟨he, hgr⟩ | ⟨rfl, hgr⟩
  · injection he with e1 _ e3
    subst e1
    subst e3
    rcases h with ⟨h1, k, m, hk, h2, hm⟩ | ⟨h1, h2⟩
    · injection hk with hk
      injection hk with hk _ _
      subst hk
      exact .inl ⟨h1, g, m, rfl, h2, by omega⟩
    · refine .inr ⟨(h1.keepT (.alloc _ _ o)).keep (g := some g) (fun k hk hc => ?_) (.grown hgr), fun a ha => h2 a ha⟩
      injection hc with hc
      subst hc
      exact h2 _ rfl hk
  · have h1 := h.ok hg
    refine .inr ⟨(h1.keepT (.alloc _ _ o)).keep (g := none) (fun k _ hc => by cases hc) (.grown hgr), fun a ha => ?_⟩
    injection ha with ha
    subst ha
    intro hc
    have := h1.lt hc
    simp at this
    omega
theorem KeepX.two {w0 w w2 : World} {vb : Option Nat} {gad : Option Addr} {glen gcap g cap : Nat} (h : KeepX vb w0 w) (hsz : w0.heap.size ≤ w.heap.size) (o : Obj) (ht : Two (w.alloc o) w2 gad glen gcap g cap) (hn : ∀ a, gad = some a → vb = some a.block ∨ w0.heap.size ≤ a.block) : KeepX vb w0 w2 ∧ (vb = some g ∨ w0.heap.size ≤ g) := by
  rcases ht with ⟨he, hgr⟩ | ⟨rfl, hgr⟩
  · injection he with e1 _ e3
    subst e1
    have hn' := hn _ rfl
    refine ⟨fun k cur hk hne => ?_, hn'⟩
    have hlt := lt_of_block hk
    rw [hgr.block k (by simp; omega) (fun hc => ?_), Below.heap_alloc _ _ _ (by omega), h k cur hk hne]
    injection hc with hc
    subst hc
    rcases hn' with hn' | hn'
    · exact hne hn'
    · simp only at hn'; omega
  · refine ⟨fun k cur hk hne => ?_, .inr (by simp; omega)⟩
    have hlt := lt_of_block hk
    rw [hgr.block k (by simp; omega) (fun hc => by cases hc), Below.heap_alloc _ _ _ (by omega), h k cur hk hne]
theorem Two.below {B : Nat} {w w2 : World} {gad : Option Addr} {glen gcap g cap : Nat} {l : List Int} {o : Obj} (ht : Two (w.alloc o) w2 gad glen gcap g cap) (hg : IntsOwn B w (.slice gad glen gcap) l) (hsz : B ≤ w.heap.size) : Below B w w2 := by
  rcases ht with ⟨he, hgr⟩ | ⟨rfl, hgr⟩
  · rw [he] at hg
    exact ((Below.refl B w).alloc hsz o).grown hgr (by simp; omega) (own_base hg)
  · exact ((Below.refl B w).alloc hsz o).grown hgr (by simp; omega) (by intro k hk; cases hk)
theorem Two.keep {B : Nat} {w w2 : World} {gad : Option Addr} {glen gcap g cap : Nat} {l : List Int} {o : Obj} {e : TypeId} (ht : Two (w.alloc o) w2 gad glen gcap g cap) (hg : IntsOwn B w (.slice gad glen gcap) l) (hne : 3 ≠ e) : KeepT e w w2 := by
  rcases ht with ⟨he, hgr⟩ | ⟨rfl, hgr⟩
  · rw [he] at hg
    have h1 := own_keep hg (.alloc _ w o)
    exact (KeepT.alloc e w o).trans (.grown h1 hgr hne)
  · exact (KeepT.alloc e w o).trans (fun k cur hk => hgr.block k (lt_of_block hk) (fun hc => by cases hc))
end Go.Proofs.YtfaljekgpnbmiaaGreat

/-
  Contract of the statement's own ints.
-/
namespace Go.Proofs.YtfaljekgpnbmiaaGreat
open Go.RowKit

theorem Tryz.infoHI : (Tryz.prog.info? 78).map (fun i => (i.zero, i.size, i.bytes)) = some (some (.agg #[.slice none 0 0, .int .i64 0]), 2, 32) := by kernel_rfl
/-- All that is held while g is written on. -/
structure Busy (B : Nat) (w0 w : World) (b N : Nat) (ents new : List (Value × Int)) (v1 : Value) (vb : Option Nat) (gad : Option Addr) (glen gcap : Nat) (n : Int) : Prop where
  held : HeldAt B w b N (ents ++ new) v1
  own : IntsOwn B w (.slice gad glen gcap) (List.replicate glen n)
  ent : ∀ e ∈ ents ++ new, EntG w gad glen gcap n e
  news : ∀ e ∈ new, ∀ k, e.1.ownBlock = some k → vb = some k ∨ w0.heap.size ≤ k
  gnew : ∀ a, gad = some a → vb = some a.block ∨ w0.heap.size ≤ a.block
  keep : KeepX vb w0 w
  below : Below B w0 w
theorem Busy.add {B : Nat} {w0 w w2 : World} {b N : Nat} {ents new : List (Value × Int)} {v1 v' : Value} {vb : Option Nat} {gad : Option Addr} {glen gcap : Nat} {n : Int} (h : Busy B w0 w b N ents new v1 vb gad glen gcap n) (hsz : B ≤ w.heap.size) (o : Obj) (hg : (w.alloc o).grownBy w2 v1.ownBlock) (ho : w2.ownsRow B 78 2 v' ((ents ++ new).length + 1) (entCellsH (ents ++ new) ++ [.slice gad glen gcap, intV n])) :
    Busy B w0 (w2.setCell ⟨b, 1, none⟩ v') b N ents (new ++ [(.slice gad glen gcap, n)]) v' vb gad glen gcap n ∧ w2.heap[b]? = some (.cells #[.int .i64 N, v1, .slice none 0 0, .slice none 0 0] 28 (0, 0)) := by
  obtain ⟨h1, h2, h3, h4⟩ := h.held.add _ n o hsz hg ho
  have hown := own_keep h.own h2
  refine ⟨⟨by rw [← List.append_assoc]; exact h1, hown, ?_, ?_, h.gnew, h.keep.trans (.of h2), h.below.trans h3⟩, h4⟩
  · intro e he
    rw [← List.append_assoc] at he
    rcases List.mem_append.1 he with he | he
    · rcases h.ent e he with hc | ⟨hc, hd⟩
      · exact .inl hc
      · exact .inr ⟨hc.keepT h2, hd⟩
    · rw [List.mem_singleton] at he
      subst he
      rcases h.own.2 with ⟨hn, _⟩ | ⟨k, cap, cur, hv, _⟩
      · injection hn with e1 e2 e3
        subst e1
        subst e2
        subst e3
        exact .inr ⟨⟨0, World.ownsRow_nil _ 0 _ 1⟩, fun a ha => by cases ha⟩
      · injection hv with e1 e2 e3
        subst e1
        exact .inl ⟨rfl, k, glen, rfl, rfl, Nat.le_refl _⟩
  · intro e he k hk
    rcases List.mem_append.1 he with he | he
    · exact h.news e he k hk
    · rw [List.mem_singleton] at he
      subst he
      cases gad with
      | none => simp [Value.ownBlock] at hk
      | some a => simp [Value.ownBlock] at hk; subst hk; exact h.gnew a rfl
theorem Busy.grow {B : Nat} {w0 w w2 : World} {b N : Nat} {ents new : List (Value × Int)} {v1 : Value} {vb : Option Nat} {gad : Option Addr} {glen gcap g cap : Nat} {n : Int} (h : Busy B w0 w b N ents new v1 vb gad glen gcap n) (hsz : B ≤ w.heap.size) (o : Obj) (ht : Two (w.alloc o) w2 gad glen gcap g cap) (ho : w2.ownsRow B 3 1 (.slice (some ⟨g, 0, none⟩) (glen + 1) cap) (glen + 1) ((List.replicate glen n).map intV ++ [intV n])) :
    Busy B w0 w2 b N ents new v1 vb (some ⟨g, 0, none⟩) (glen + 1) cap n := by
  have hk := h.keep.two h.below.size o ht h.gnew
  refine ⟨h.held.keep (ht.keep h.own (by decide)) (ht.keep h.own (by decide)), ?_, fun e he => (h.ent e he).grow h.own o ht, h.news, ?_, hk.1, h.below.trans (ht.below h.own hsz)⟩
  · have e : (List.replicate (glen + 1) n).map intV = (List.replicate glen n).map intV ++ [intV n] := by rw [List.replicate_succ']; simp
    unfold IntsOwn
    rw [e, List.length_replicate]; exact ho
  · intro a ha
    injection ha with ha
    subst ha
    exact hk.2
end Go.Proofs.YtfaljekgpnbmiaaGreat
