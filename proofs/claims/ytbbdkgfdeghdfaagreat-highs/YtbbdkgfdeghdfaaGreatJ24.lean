/- Joined: Law7 Law8 Law9 Law10. -/
import Derived.Test.YtbbdkgfdeghdfaaGreatJ23
/-
  What an append to the held lists, and one to the list written on, leaves.
-/
namespace Go.Proofs.YtbbdkgfdeghdfaaGreat
open Go.RowKit

theorem entCellsH_snoc (ents : List (Value × Int)) (L : Value) (n : Int) : entCellsH (ents ++ [(L, n)]) = entCellsH ents ++ [L, intV n] := by simp [entCellsH]
theorem HeldAt.add {B : Nat} {w w2 : World} {b N : Nat} {ents : List (Value × Int)} {v v' : Value} (h : HeldAt B w b N ents v) (L : Value) (n : Int) (o : Obj) (hsz : B ≤ w.heap.size) (hg : (w.alloc o).grownBy w2 v.ownBlock) (ho : w2.ownsRow B 53 2 v' (ents.length + 1) (entCellsH ents ++ [L, intV n])) :
    HeldAt B (w2.setCell ⟨b, 1, none⟩ v') b N (ents ++ [(L, n)]) v' ∧ KeepT 3 w (w2.setCell ⟨b, 1, none⟩ v') ∧ Below B w (w2.setCell ⟨b, 1, none⟩ v') ∧ w2.heap[b]? = some (.cells #[.int .i64 N, v, .slice none 0 0, .slice none 0 0] 28 (0, 0)) := by
  have h1 : HeldAt B (w.alloc o) b N ents v := h.keep (.alloc _ _ _) (.alloc _ _ _)
  have k1 : KeepT 28 (w.alloc o) w2 := .grown h1.own hg (by decide)
  have k2 : KeepT 3 (w.alloc o) w2 := .grown h1.own hg (by decide)
  have hb : w2.heap[b]? = some (.cells #[.int .i64 N, v, .slice none 0 0, .slice none 0 0] 28 (0, 0)) := by rw [k1 b _ h1.blk]; exact h1.blk
  refine ⟨⟨h.base, by rw [heap_setCell_same w2 b 1 _ _ _ hb]; rfl, ?_⟩, ?_, ?_, hb⟩
  · have := own_keep ho (.setCell hb (by decide) 1 v')
    rw [entCellsH_snoc, List.length_append]
    exact this
  · exact ((KeepT.alloc _ w o).trans k2).trans (.setCell hb (by decide) 1 v')
  · exact (((Below.refl B w).alloc hsz o).grown hg (by simp; omega) (own_base h1.own)).setCell (p := ⟨b, 1, none⟩) h.base _
def Two (w w2 : World) (gad : Option Addr) (glen gcap g cap : Nat) : Prop :=
  (Value.slice gad glen gcap = .slice (some ⟨g, 0, none⟩) glen cap ∧ w.grownBy w2 (some g)) ∨ (g = w.heap.size ∧ w.grownBy w2 none)
theorem EntG.grow {B : Nat} {w w2 : World} {gad : Option Addr} {glen gcap g cap : Nat} {n : Int} {e : Value × Int} (h : EntG w gad glen gcap n e) (hg : IntsOwn B w (.slice gad glen gcap) (List.replicate glen n)) (o : Obj) (ht : Two (w.alloc o) w2 gad glen gcap g cap) : EntG w2 (some ⟨g, 0, none⟩) (glen + 1) cap n e := by
  rcases ht with ⟨he, hgr⟩ | ⟨rfl, hgr⟩
  · injection he with e1 _ e3
    subst e1
    subst e3
    rcases h with ⟨h1, k, m, hk, h2, hm⟩ | ⟨h1, h2⟩
    · injection hk with hk
      injection hk with hk _ _
      subst hk
      exact .inl ⟨h1, g, m, rfl, h2, by omega⟩
    · refine .inr ⟨(h1.keepT (.alloc _ _ o)).keep (g := some g) (fun k hk hc => ?_) (.grown hgr), fun a ha => h2 a ha⟩
      injection hc with hc
      subst hc
      exact h2 _ rfl hk
  · have h1 := h.ok hg
    refine .inr ⟨(h1.keepT (.alloc _ _ o)).keep (g := none) (fun k _ hc => by cases hc) (.grown hgr), fun a ha => ?_⟩
    injection ha with ha
    subst ha
    intro hc
    have := h1.lt hc
    simp at this
    omega
theorem KeepX.two {w0 w w2 : World} {vb : Option Nat} {gad : Option Addr} {glen gcap g cap : Nat} (h : KeepX vb w0 w) (hsz : w0.heap.size ≤ w.heap.size) (o : Obj) (ht : Two (w.alloc o) w2 gad glen gcap g cap) (hn : ∀ a, gad = some a → vb = some a.block ∨ w0.heap.size ≤ a.block) : KeepX vb w0 w2 ∧ (vb = some g ∨ w0.heap.size ≤ g) := by
  rcases ht with ⟨he, hgr⟩ | ⟨rfl, hgr⟩
  · injection he with e1 _ e3
    subst e1
    have hn' := hn _ rfl
    refine ⟨fun k cur hk hne => ?_, hn'⟩
    have hlt := lt_of_block hk
    rw [hgr.block k (by simp; omega) (fun hc => ?_), Below.heap_alloc _ _ _ (by omega), h k cur hk hne]
    injection hc with hc
    subst hc
    rcases hn' with hn' | hn'
    · exact hne hn'
    · simp only at hn'; omega
  · refine ⟨fun k cur hk hne => ?_, .inr (by simp; omega)⟩
    have hlt := lt_of_block hk
    rw [hgr.block k (by simp; omega) (fun hc => by cases hc), Below.heap_alloc _ _ _ (by omega), h k cur hk hne]
theorem Two.below {B : Nat} {w w2 : World} {gad : Option Addr} {glen gcap g cap : Nat} {l : List Int} {o : Obj} (ht : Two (w.alloc o) w2 gad glen gcap g cap) (hg : IntsOwn B w (.slice gad glen gcap) l) (hsz : B ≤ w.heap.size) : Below B w w2 := by
  rcases ht with ⟨he, hgr⟩ | ⟨rfl, hgr⟩
  · rw [he] at hg
    exact ((Below.refl B w).alloc hsz o).grown hgr (by simp; omega) (own_base hg)
  · exact ((Below.refl B w).alloc hsz o).grown hgr (by simp; omega) (by intro k hk; cases hk)
theorem Two.keep {B : Nat} {w w2 : World} {gad : Option Addr} {glen gcap g cap : Nat} {l : List Int} {o : Obj} {e : TypeId} (ht : Two (w.alloc o) w2 gad glen gcap g cap) (hg : IntsOwn B w (.slice gad glen gcap) l) (hne : 3 ≠ e) : KeepT e w w2 := by
  rcases ht with ⟨he, hgr⟩ | ⟨rfl, hgr⟩
  · rw [he] at hg
    have h1 := own_keep hg (.alloc _ w o)
    exact (KeepT.alloc e w o).trans (.grown h1 hgr hne)
  · exact (KeepT.alloc e w o).trans (fun k cur hk => hgr.block k (lt_of_block hk) (fun hc => by cases hc))
end Go.Proofs.YtbbdkgfdeghdfaaGreat

/-
  Contract of the statement's own ints.
-/
namespace Go.Proofs.YtbbdkgfdeghdfaaGreat
open Go.RowKit

theorem Tryz.infoHI : (Tryz.prog.info? 53).map (fun i => (i.zero, i.size, i.bytes)) = some (some (.agg #[.slice none 0 0, .int .i64 0]), 2, 32) := by kernel_rfl
/-- All that is held while g is written on. -/
structure Busy (B : Nat) (w0 w : World) (b N : Nat) (ents new : List (Value × Int)) (v1 : Value) (vb : Option Nat) (gad : Option Addr) (glen gcap : Nat) (n : Int) : Prop where
  held : HeldAt B w b N (ents ++ new) v1
  own : IntsOwn B w (.slice gad glen gcap) (List.replicate glen n)
  ent : ∀ e ∈ ents ++ new, EntG w gad glen gcap n e
  news : ∀ e ∈ new, ∀ k, e.1.ownBlock = some k → vb = some k ∨ w0.heap.size ≤ k
  gnew : ∀ a, gad = some a → vb = some a.block ∨ w0.heap.size ≤ a.block
  keep : KeepX vb w0 w
  below : Below B w0 w
theorem Busy.add {B : Nat} {w0 w w2 : World} {b N : Nat} {ents new : List (Value × Int)} {v1 v' : Value} {vb : Option Nat} {gad : Option Addr} {glen gcap : Nat} {n : Int} (h : Busy B w0 w b N ents new v1 vb gad glen gcap n) (hsz : B ≤ w.heap.size) (o : Obj) (hg : (w.alloc o).grownBy w2 v1.ownBlock) (ho : w2.ownsRow B 53 2 v' ((ents ++ new).length + 1) (entCellsH (ents ++ new) ++ [.slice gad glen gcap, intV n])) :
    Busy B w0 (w2.setCell ⟨b, 1, none⟩ v') b N ents (new ++ [(.slice gad glen gcap, n)]) v' vb gad glen gcap n ∧ w2.heap[b]? = some (.cells #[.int .i64 N, v1, .slice none 0 0, .slice none 0 0] 28 (0, 0)) := by
  obtain ⟨h1, h2, h3, h4⟩ := h.held.add _ n o hsz hg ho
  have hown := own_keep h.own h2
  refine ⟨⟨by rw [← List.append_assoc]; exact h1, hown, ?_, ?_, h.gnew, h.keep.trans (.of h2), h.below.trans h3⟩, h4⟩
  · intro e he
    rw [← List.append_assoc] at he
    rcases List.mem_append.1 he with he | he
    · rcases h.ent e he with hc | ⟨hc, hd⟩
      · exact .inl hc
      · exact .inr ⟨hc.keepT h2, hd⟩
    · rw [List.mem_singleton] at he
      subst he
      rcases h.own.2 with ⟨hn, _⟩ | ⟨k, cap, cur, hv, _⟩
      · injection hn with e1 e2 e3
        subst e1
        subst e2
        subst e3
        exact .inr ⟨⟨0, World.ownsRow_nil _ 0 _ 1⟩, fun a ha => by cases ha⟩
      · injection hv with e1 e2 e3
        subst e1
        exact .inl ⟨rfl, k, glen, rfl, rfl, Nat.le_refl _⟩
  · intro e he k hk
    rcases List.mem_append.1 he with he | he
    · exact h.news e he k hk
    · rw [List.mem_singleton] at he
      subst he
      cases gad with
      | none => simp [Value.ownBlock] at hk
      | some a => simp [Value.ownBlock] at hk; subst hk; exact h.gnew a rfl
theorem Busy.grow {B : Nat} {w0 w w2 : World} {b N : Nat} {ents new : List (Value × Int)} {v1 : Value} {vb : Option Nat} {gad : Option Addr} {glen gcap g cap : Nat} {n : Int} (h : Busy B w0 w b N ents new v1 vb gad glen gcap n) (hsz : B ≤ w.heap.size) (o : Obj) (ht : Two (w.alloc o) w2 gad glen gcap g cap) (ho : w2.ownsRow B 3 1 (.slice (some ⟨g, 0, none⟩) (glen + 1) cap) (glen + 1) ((List.replicate glen n).map intV ++ [intV n])) :
    Busy B w0 w2 b N ents new v1 vb (some ⟨g, 0, none⟩) (glen + 1) cap n := by
  have hk := h.keep.two h.below.size o ht h.gnew
  refine ⟨h.held.keep (ht.keep h.own (by decide)) (ht.keep h.own (by decide)), ?_, fun e he => (h.ent e he).grow h.own o ht, h.news, ?_, hk.1, h.below.trans (ht.below h.own hsz)⟩
  · have e : (List.replicate (glen + 1) n).map intV = (List.replicate glen n).map intV ++ [intV n] := by rw [List.replicate_succ']; simp
    unfold IntsOwn
    rw [e, List.length_replicate]; exact ho
  · intro a ha
    injection ha with ha
    subst ha
    exact hk.2
end Go.Proofs.YtbbdkgfdeghdfaaGreat

/-
  Contract of the statement's own ints: the walk.
-/
namespace Go.Proofs.YtbbdkgfdeghdfaaGreat
open Go.RowKit

theorem fill_step (xs : List Int) (k : Nat) (hk : k < xs.length) (n : Int) : (List.replicate k n ++ xs.drop k).set k n = List.replicate (k + 1) n ++ xs.drop (k + 1) := by
  rw [List.set_append, if_neg (by simp), List.length_replicate, Nat.sub_self, List.drop_eq_getElem_cons hk, List.set_cons_zero, List.replicate_succ', List.append_assoc]; rfl
theorem ints_shape {B : Nat} {w : World} {v : Value} {l : List Int} (h : IntsOwn B w v l) : ∃ ad cap, v = .slice ad l.length cap ∧ cap ≤ maxLen := by
  rcases h.2 with ⟨rfl, hn⟩ | ⟨g, cap, cur, rfl, _, _, _, hm, _⟩
  · exact ⟨none, 0, by rw [hn], by unfold maxLen; omega⟩
  · exact ⟨_, _, rfl, hm⟩
set_option maxRecDepth 100000 in
set_option maxHeartbeats 4000000 in
theorem ints_law {B : Nat} {w : World} {b N : Nat} {ents : List (Value × Int)} {v0 : Value} (v : Value) (xs : List Int) (hH : HeldAt B w b N ents v0) (hv : IntsOwn B w v xs) (hE : ∀ e ∈ ents, EntOk w e ∧ ∀ k, v.ownBlock = some k → e.1.ownBlock ≠ some k) (hB : B ≤ w.heap.size) (hx : xs.length ≤ 17592186043906) (hn : ents.length ≤ 100) (hN : N ≤ 100) :
    Calls Tryz.prog 24 #[.pointer (some ⟨b, 0, none⟩), v] w fun e w' => e = .returned (.int .i64 (1099511627783 + (N + 1 : Int))) ∧ ∃ new v1, HeldAt B w' b (N + 1) (ents ++ new) v1 ∧ new.length = 4 ∧ (∀ e ∈ ents ++ new, EntOk w' e) ∧ (∀ e ∈ new, ∀ k, e.1.ownBlock = some k → v.ownBlock = some k ∨ w.heap.size ≤ k) ∧ KeepX v.ownBlock w w' ∧ Below B w w' := by
  obtain ⟨i0, hi, hz0, hz1, hz2⟩ := info_parts Tryz.infoHI
  obtain ⟨j0, hj, hy0, hy1, hy2⟩ := info_parts Tryz.infoInt
  obtain ⟨vad, vcap, rfl, hvc⟩ := ints_shape hv
  obtain ⟨va0, vc0, rfl⟩ := slice_shape hH.own
  obtain ⟨n, hnn⟩ : ∃ n : Int, n = 1099511627783 + (N + 1 : Int) := ⟨_, rfl⟩
  have hM := hide (mark_law b N _ _ _ w hH.blk (by omega))
  rw [← hnn] at hM ⊢
  -- behind mark
  have H1 : Hid (HeldAt B (w.setCell ⟨b, 0, none⟩ (.int .i64 (N + 1 : Int))) b (N + 1) ents (.slice va0 ents.length vc0) ∧ IntsOwn B (w.setCell ⟨b, 0, none⟩ (.int .i64 (N + 1 : Int))) (.slice vad xs.length vcap) (List.replicate 0 n ++ xs.drop 0) ∧ KeepX (Value.ownBlock (.slice vad xs.length vcap)) w (w.setCell ⟨b, 0, none⟩ (.int .i64 (N + 1 : Int))) ∧ Below B w (w.setCell ⟨b, 0, none⟩ (.int .i64 (N + 1 : Int)))) :=
    ⟨hH.mark, own_keep hv (.setCell hH.blk (by decide) _ _), .of (.setCell hH.blk (by decide) _ _), (Below.refl B w).setCell (p := ⟨b, 0, none⟩) hH.base _⟩
  have HE := hide hE
  have HV := hide hv
  clear hE hv hH hnn
  go_enter Tryz.func24, Tryz.ntmps24
  go_wp2_with fail
  refine (unhide hM).mono ?_
  rintro e w1 ⟨rfl, hw1⟩
  rw [hw1]
  clear hw1 w1 hM
  go_wp2
  go_loopw [6] (fun i wr => ∃ k : Nat, k ≤ xs.length ∧ i = .int .i64 k ∧ Hid (HeldAt B wr b (N + 1) ents (.slice va0 ents.length vc0) ∧ IntsOwn B wr (.slice vad xs.length vcap) (List.replicate k n ++ xs.drop k) ∧ KeepX (Value.ownBlock (.slice vad xs.length vcap)) w wr ∧ Below B w wr)) (fun i _ => xs.length - (intOf i).toNat)
  case atStart => exact ⟨0, by omega, rfl, H1⟩
  case round =>
    obtain ⟨k, hk, rfl, hh⟩ := hrel
    clear H1
    by_cases hlt : k < xs.length
    · obtain ⟨q1, q2, q3, q4⟩ := unhide hh
      have hll : (List.replicate k n ++ xs.drop k).length = xs.length := by simp; omega
      obtain ⟨g, cap, cur, hvv, hgb, hgg, hgl, hgm, hgs, hgt⟩ : ∃ g cap cur, Value.slice vad xs.length vcap = .slice (some ⟨g, 0, none⟩) xs.length cap ∧ B ≤ g ∧ wr.heap[g]? = some (.cells cur 3 (0, 0)) ∧ xs.length ≤ cap ∧ cap ≤ maxLen ∧ cur.size = cap ∧ True := by
        rcases q2.2 with ⟨_, h0⟩ | ⟨g, cap, cur, h1, h2, h3, h4, h5, h6, h7⟩
        · omega
        · exact ⟨g, cap, cur, by rw [h1, hll], h2, h3, by omega, h5, by omega, trivial⟩
      injection hvv with e1 _ e3
      subst e1
      subst e3
      have hc : ∃ u, wr.cell? ⟨g, k, none⟩ = some u := by
        rw [cellsOf hgg]
        exact ⟨cur[k]'(by omega), by simp⟩
      obtain ⟨u, hcu⟩ := hc
      have hfr : wr.frozen? ⟨g, k, none⟩ = false := freeOf hgg _
      have HN : Hid (HeldAt B (wr.setCell ⟨g, k, none⟩ (.int .i64 n)) b (N + 1) ents (.slice va0 ents.length vc0) ∧ IntsOwn B (wr.setCell ⟨g, k, none⟩ (.int .i64 n)) (.slice (some ⟨g, 0, none⟩) xs.length vcap) (List.replicate (k + 1) n ++ xs.drop (k + 1)) ∧ KeepX (Value.ownBlock (.slice (some ⟨g, 0, none⟩) xs.length vcap)) w (wr.setCell ⟨g, k, none⟩ (.int .i64 n)) ∧ Below B w (wr.setCell ⟨g, k, none⟩ (.int .i64 n))) := by
        refine ⟨q1.keep (.setCell hgg (by decide) _ _) (.setCell hgg (by decide) _ _), ?_, q3.trans (.setCell _ _ _ _), q4.setCell (p := ⟨g, k, none⟩) hgb _⟩
        rw [← fill_step xs k hlt n]
        exact ints_write q2 k (by omega) n
      clear hh q1 q2 q3 q4 hll hgg hgs hgt
      go_wp2
      go_roundw
      case rel => exact ⟨k + 1, by omega, by go_num, HN⟩
      case measure => simp [intOf]; omega
    · have hkx : k = xs.length := by omega
      have HB : Hid (Busy B w wr b (N + 1) ents [] (.slice va0 ents.length vc0) (Value.ownBlock (.slice vad xs.length vcap)) vad xs.length vcap n) := by
        obtain ⟨q1, q2, q3, q4⟩ := unhide hh
        subst hkx
        rw [List.drop_length, List.append_nil] at q2
        refine ⟨by rw [List.append_nil]; exact q1, q2, fun e he => ?_, fun e he => absurd he (by simp), fun a ha => ?_, q3, q4⟩
        · rw [List.append_nil] at he
          obtain ⟨h1, h2⟩ := unhide HE e he
          refine .inr ⟨h1.keep (fun k hk hc => h2 k hc hk) q3, fun a ha => h2 _ (by rw [ha]; rfl)⟩
        · left; rw [ha]; rfl
      clear hh HE HV hkx
      obtain ⟨wv, hwv⟩ : ∃ wv : World, wv = wr := ⟨wr, rfl⟩
      subst hwv
      go_wp2
      go_loopw [7, 8] (fun gv i wr => ∃ (j glen : Nat) (gad : Option Addr) (gcap : Nat) (va : Option Addr) (vn vc : Nat), j ≤ 3 ∧ glen ≤ 17592186043909 ∧ vn ≤ 103 ∧ gv = .slice gad glen gcap ∧ i = .int .i64 j ∧ Hid (∃ new, new.length = j ∧ vn = (ents ++ new).length ∧ Busy B w wr b (N + 1) ents new (.slice va vn vc) (Value.ownBlock (.slice vad xs.length vcap)) gad glen gcap n ∧ glen = xs.length + j)) (fun _ i _ => 3 - (intOf i).toNat)
      case atStart => exact ⟨0, xs.length, vad, vcap, va0, ents.length, vc0, by omega, by omega, by omega, rfl, rfl, [], rfl, by simp, HB.out, rfl⟩
      case round =>
        obtain ⟨j, glen, gad, gcap, va, vn, vc, hj3, hgl, hvn, rfl, rfl, hh⟩ := hrel
        clear HB
        obtain ⟨new, hnl, hvl, hbz, hgx⟩ := unhide hh
        have HZ := hide hbz
        have HL := hide (show vn = (ents ++ new).length ∧ new.length = j ∧ glen = xs.length + j from ⟨hvl, hnl, hgx⟩)
        have hsz : B ≤ wr.heap.size := Nat.le_trans hB hbz.below.size
        have c1 : wr.cell? ⟨b, 1, none⟩ = some (.slice va vn vc) := by rw [cellsOf hbz.held.blk]; rfl
        have f1 : wr.frozen? ⟨b, 1, none⟩ = false := freeOf hbz.held.blk 1
        have hal : (wr.alloc (.cells #[.slice gad glen gcap, .int .i64 n] 53)).ownsRow B 53 2 (.slice va vn vc) vn (entCellsH (ents ++ new)) := by
          have := own_keep hbz.held.own (.alloc _ wr (.cells #[.slice gad glen gcap, .int .i64 n] 53))
          rw [← hvl] at this; exact this
        clear hh hnl hvl hbz hgx
        by_cases hlt : j < 3
        · go_wp2_with (at_builtin; refine wpList_append_lies _ rfl _ _ 24 rfl B 53 i0 (.agg #[.slice none 0 0, .int .i64 0]) 2 32 Tryz.underlying24 hi hz0 hz1 hz2 rfl (by decide) _ _ _ rfl hal ⟨_, 0, none⟩ 1 1 [.slice gad glen gcap, intV n] rfl rfl ?c1 (two_cell _ _ rfl rfl) (by decide) ?c3 ?c4 ?c5 _ rfl ?_)
          case c1 => exact news_at #[.slice gad glen gcap, intV n] _
          case c3 => unfold maxLen; omega
          case c4 => omega
          case c5 => simp; omega
          · intro g1 cap1 w1 hown1 hgrow1 _ _
            have HA : Hid (Busy B w (w1.setCell ⟨b, 1, none⟩ (.slice (some ⟨g1, 0, none⟩) (vn + 1) cap1)) b (N + 1) ents (new ++ [(.slice gad glen gcap, n)]) (.slice (some ⟨g1, 0, none⟩) (vn + 1) cap1) (Value.ownBlock (.slice vad xs.length vcap)) gad glen gcap n ∧ w1.heap[b]? = some (.cells #[.int .i64 (N + 1 : Nat), .slice va vn vc, .slice none 0 0, .slice none 0 0] 28 (0, 0))) :=
              (unhide HZ).add hsz _ hgrow1 (by rw [← (unhide HL).1]; exact hown1)
            have c1' : w1.cell? ⟨b, 1, none⟩ = some (.slice va vn vc) := by rw [cellsOf (unhide HA).2]; rfl
            have f1' : w1.frozen? ⟨b, 1, none⟩ = false := freeOf (unhide HA).2 1
            have hsz2 : B ≤ (w1.setCell ⟨b, 1, none⟩ (.slice (some ⟨g1, 0, none⟩) (vn + 1) cap1)).heap.size := Nat.le_trans hB (unhide HA).1.below.size
            have hsz3 : B ≤ w1.heap.size := by simpa using hsz2
            clear hown1 hgrow1 hal HZ
            have hal2 : ((w1.setCell ⟨b, 1, none⟩ (.slice (some ⟨g1, 0, none⟩) (vn + 1) cap1)).alloc (.cells #[.int .i64 n] 3)).ownsRow B 3 1 (.slice gad glen gcap) glen ((List.replicate glen n).map intV) := by
              have := own_keep (unhide HA).1.own (.alloc _ _ (.cells #[.int .i64 n] 3))
              rw [List.length_replicate] at this; exact this
            go_wp2_with (at_builtin; refine wpList_append_two _ rfl _ _ 22 rfl B 3 j0 (.int .i64 0) 1 8 Tryz.underlying22 hj hy0 hy1 hy2 rfl (by decide) _ _ _ rfl hal2 ⟨_, 0, none⟩ 1 1 [intV n] rfl rfl ?d1 (fun u hu => by simp at hu; subst hu; rfl) (by decide) ?d3 ?d4 ?d5 ?_)
            case d1 =>
              have e9 : (w1.setCell ⟨b, 1, none⟩ (.slice (some ⟨g1, 0, none⟩) (vn + 1) cap1)).heap.size = w1.heap.size := by simp
              have n9 := news_at (w := w1.setCell ⟨b, 1, none⟩ (.slice (some ⟨g1, 0, none⟩) (vn + 1) cap1)) #[intV n] 3
              rw [e9] at n9
              exact n9
            case d3 => unfold maxLen; omega
            case d4 => omega
            case d5 => simp; omega
            · intro g2 cap2 w3 hown3 htwo0 _
              have htwo : Two ((w1.setCell ⟨b, 1, none⟩ (.slice (some ⟨g1, 0, none⟩) (vn + 1) cap1)).alloc (.cells #[.int .i64 n] 3)) w3 gad glen gcap g2 cap2 := by
                rcases htwo0 with ⟨h1, h3⟩ | ⟨h1, h3⟩
                · exact .inl ⟨by simpa using h1, h3⟩
                · exact .inr ⟨by rw [h1]; simp, h3⟩
              have HG : Hid (Busy B w w3 b (N + 1) ents (new ++ [(.slice gad glen gcap, n)]) (.slice (some ⟨g1, 0, none⟩) (vn + 1) cap1) (Value.ownBlock (.slice vad xs.length vcap)) (some ⟨g2, 0, none⟩) (glen + 1) cap2 n) := (unhide HA).1.grow hsz2 _ htwo (by rw [List.map_replicate]; exact hown3)
              clear hown3 htwo htwo0 hal2 HA c1 f1 c1' f1'
              go_wp2
              go_roundw
              case rel => exact ⟨j + 1, glen + 1, some ⟨g2, 0, none⟩, cap2, some ⟨g1, 0, none⟩, vn + 1, cap1, by omega, by have := (unhide HL).2.2; omega, by have := (unhide HL).1; have := (unhide HL).2.1; simp at *; omega, rfl, by go_num, new ++ [(.slice gad glen gcap, n)], by have := (unhide HL).2.1; simp; omega, by have := (unhide HL).1; simp at *; omega, unhide HG, by have := (unhide HL).2.2; omega⟩
              case measure => simp [intOf]; omega
        · go_wp2_with (at_builtin; refine wpList_append_lies _ rfl _ _ 24 rfl B 53 i0 (.agg #[.slice none 0 0, .int .i64 0]) 2 32 Tryz.underlying24 hi hz0 hz1 hz2 rfl (by decide) _ _ _ rfl hal ⟨_, 0, none⟩ 1 1 [.slice gad glen gcap, intV n] rfl rfl ?c1 (two_cell _ _ rfl rfl) (by decide) ?c3 ?c4 ?c5 _ rfl ?_)
          case c1 => exact news_at #[.slice gad glen gcap, intV n] _
          case c3 => unfold maxLen; omega
          case c4 => omega
          case c5 => simp; omega
          · intro g1 cap1 w1 hown1 hgrow1 _ _
            have HA : Hid (Busy B w (w1.setCell ⟨b, 1, none⟩ (.slice (some ⟨g1, 0, none⟩) (vn + 1) cap1)) b (N + 1) ents (new ++ [(.slice gad glen gcap, n)]) (.slice (some ⟨g1, 0, none⟩) (vn + 1) cap1) (Value.ownBlock (.slice vad xs.length vcap)) gad glen gcap n ∧ w1.heap[b]? = some (.cells #[.int .i64 (N + 1 : Nat), .slice va vn vc, .slice none 0 0, .slice none 0 0] 28 (0, 0))) :=
              (unhide HZ).add hsz _ hgrow1 (by rw [← (unhide HL).1]; exact hown1)
            have c1' : w1.cell? ⟨b, 1, none⟩ = some (.slice va vn vc) := by rw [cellsOf (unhide HA).2]; rfl
            have f1' : w1.frozen? ⟨b, 1, none⟩ = false := freeOf (unhide HA).2 1
            have hsz2 : B ≤ (w1.setCell ⟨b, 1, none⟩ (.slice (some ⟨g1, 0, none⟩) (vn + 1) cap1)).heap.size := Nat.le_trans hB (unhide HA).1.below.size
            have hsz3 : B ≤ w1.heap.size := by simpa using hsz2
            clear hown1 hgrow1 hal HZ
            go_wp2
            go_ret
            refine ⟨rfl, new ++ [(.slice gad glen gcap, n)], _, (unhide HA).1.held, by have := (unhide HL).2.1; simp; omega, fun e he => ((unhide HA).1.ent e he).ok (unhide HA).1.own, (unhide HA).1.news, (unhide HA).1.keep, (unhide HA).1.below⟩
end Go.Proofs.YtbbdkgfdeghdfaaGreat

/-
  Contract of the statement's own runLow.
-/
namespace Go.Proofs.YtbbdkgfdeghdfaaGreat
open Go.RowKit

theorem lend_own {B : Nat} {w : World} {g : Nat} {home : List Int} (h : w.heap[g]? = some (.cells (lendCells home 2).toArray 3 (0, 0))) (hB : B ≤ g) (hl : home.length ≤ 17592186043904) : IntsOwn B w (.slice (some ⟨g, 0, none⟩) (home.length + 2) (home.length + 2)) (home ++ [ink, ink]) := by
  refine ⟨by simp, .inr ⟨g, home.length + 2, _, by simp, hB, h, by simp, by unfold maxLen; omega, ?_, ?_⟩⟩
  · simp [lendCells]
  · rw [List.take_of_length_le (by simp [lendCells])]
    simp [lendCells, List.replicate]
theorem HeldAt.below {B : Nat} {w w' : World} {b N : Nat} {ents : List (Value × Int)} {v : Value} (h : HeldAt B w b N ents v) (hb : Below w.heap.size w w') : HeldAt B w' b N ents v := h.keep (.of_below hb) (.of_below hb)
end Go.Proofs.YtbbdkgfdeghdfaaGreat
