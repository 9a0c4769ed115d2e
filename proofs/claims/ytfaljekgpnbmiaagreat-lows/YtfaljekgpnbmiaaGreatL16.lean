/- Joined: Ref3 Ref4 Ref5. -/
import Derived.Test.YtfaljekgpnbmiaaGreatL15
/-
  Contracts of the reference's cleared, Tokens and Print.
-/
namespace Go.Proofs.YtfaljekgpnbmiaaGreat
open Go.RowKit

/-- Block g holds the bytes of L, and may be written. -/
structure BytesIn (w : World) (g : Nat) (L : List UInt8) : Prop where
  cells : ∀ j, (hj : j < L.length) → w.cell? ⟨g, j, none⟩ = some (.int .u8 (L[j]).toNat)
  free : ∀ j, j < L.length → w.frozen? ⟨g, j, none⟩ = false
theorem BytesIn.set {w : World} {g : Nat} {L : List UInt8} (h : BytesIn w g L) (k : Nat) (hk : k < L.length) (c : UInt8) : BytesIn (w.setCell ⟨g, k, none⟩ (.int .u8 c.toNat)) g (L.set k c) := by
  refine ⟨fun j hj => ?_, fun j hj => ?_⟩
  · by_cases e : j = k
    · subst e
      rw [World.cell?_setCell_same (h := h.cells j hk)]
      simp
    · rw [World.cell?_setCell_other (h := fun e2 => e (by have := congrArg Addr.off e2; simpa using this.symm)), h.cells j (by simpa using hj)]
      rw [List.getElem_set_ne (by omega)]
  · rw [World.frozen?_setCell]; exact h.free j (by simpa using hj)
theorem bytesRow_get (l : List UInt8) (cap j : Nat) (hj : j < l.length) : (bytesRow ⟨l.toArray⟩ cap)[j]? = some (.int .u8 (l[j]).toNat) := by
  unfold bytesRow
  rw [Array.getElem?_append_left (by simpa using hj)]
  simp [hj]
theorem BytesIn.fresh (w : World) (l : List UInt8) (cap : Nat) (T : TypeId) : BytesIn (w.alloc (.cells (bytesRow ⟨l.toArray⟩ cap) T ((bytesRow ⟨l.toArray⟩ cap).size, (bytesRow ⟨l.toArray⟩ cap).size + 1))) w.heap.size l := by
  have hb : (w.alloc (.cells (bytesRow ⟨l.toArray⟩ cap) T ((bytesRow ⟨l.toArray⟩ cap).size, (bytesRow ⟨l.toArray⟩ cap).size + 1))).heap[w.heap.size]? = some (.cells (bytesRow ⟨l.toArray⟩ cap) T ((bytesRow ⟨l.toArray⟩ cap).size, (bytesRow ⟨l.toArray⟩ cap).size + 1)) := heap_alloc_new w _
  have hsz : l.length ≤ (bytesRow ⟨l.toArray⟩ cap).size := by unfold bytesRow; simp
  refine ⟨fun j hj => ?_, fun j hj => ?_⟩
  · simp only [World.cell?, hb, Option.isSome_none, Bool.false_eq_true, if_false]
    exact bytesRow_get l cap j hj
  · simp only [World.frozen?, hb]
    simp; omega

set_option maxRecDepth 100000 in
set_option maxHeartbeats 1000000 in
theorem cleared_ref (l : List UInt8) (w : World) (hl : l.length ≤ 6000) :
    Calls Tryz.prog 140 #[.string ⟨l.toArray⟩] w fun e w' => e = .returned (strV (Pl.clear l false)) ∧ Below w.heap.size w w' := by
  have hcv := run_bytes_of_string (P := Tryz.prog) w 9 197 5 ⟨l.toArray⟩ Tryz.underlying9 Tryz.underlying197 Tryz.underlying5
  have hcap := grownCap_ge w l.length 0 5
  have hsz : (ByteArray.mk l.toArray).size = l.length := rfl
  rw [hsz] at hcv
  generalize grownCap w l.length 0 5 = cap at *
  have H0 : Hid (BytesIn (w.drew.alloc (.cells (bytesRow ⟨l.toArray⟩ cap) 5 ((bytesRow ⟨l.toArray⟩ cap).size, (bytesRow ⟨l.toArray⟩ cap).size + 1))) w.heap.size l ∧ Below w.heap.size w (w.drew.alloc (.cells (bytesRow ⟨l.toArray⟩ cap) 5 ((bytesRow ⟨l.toArray⟩ cap).size, (bytesRow ⟨l.toArray⟩ cap).size + 1)))) :=
    ⟨BytesIn.fresh w.drew l cap 5, (below_drewN (Below.refl _ w) 1).alloc (Nat.le_refl _) _⟩
  generalize (w.drew.alloc (.cells (bytesRow ⟨l.toArray⟩ cap) 5 ((bytesRow ⟨l.toArray⟩ cap).size, (bytesRow ⟨l.toArray⟩ cap).size + 1))) = W0 at *
  clear hsz
  go_enter Tryz.func140, Tryz.ntmps140
  go_wp2
  go_loopw [4, 5] (fun inn i wr => ∃ (k : Nat) (fl : Bool) (L : List UInt8), k ≤ l.length ∧ L.length = l.length ∧ i = .int .i64 k ∧ inn = .bool fl ∧ Hid (BytesIn wr w.heap.size L ∧ Below w.heap.size w wr ∧ L.take k ++ Pl.clear (L.drop k) fl = Pl.clear l false)) (fun _ i _ => l.length - (intOf i).toNat)
  case atStart => exact ⟨0, false, l, by omega, rfl, rfl, rfl, (unhide H0).1, (unhide H0).2, by simp⟩
  case round =>
    obtain ⟨k, fl, L, hk, hL, rfl, rfl, hh⟩ := hrel
    clear H0 hcv
    by_cases hlt : k < l.length
    · have hc := (unhide hh).1.cells k (by omega)
      have hf := (unhide hh).1.free k (by omega)
      have hkL : k < L.length := by omega
      have hst : Pl.clear (L.drop k) fl = Pl.clearB L[k] fl :: Pl.clear (L.drop (k + 1)) (Pl.inNext L[k] fl) := by rw [List.drop_eq_getElem_cons hkL, Pl.clear]
      have htk : ∀ c : UInt8, (L.set k c).take (k + 1) = L.take k ++ [c] := fun c => by
        rw [List.take_add_one, List.take_set_of_le (by omega), List.getElem?_set_self hkL]; rfl
      have htk0 : L.take (k + 1) = L.take k ++ [L[k]] := by rw [List.take_add_one, List.getElem?_eq_getElem hkL]; rfl
      have hdr : ∀ c : UInt8, (L.set k c).drop (k + 1) = L.drop (k + 1) := fun c => List.drop_set_of_lt (by omega)
      have HS : Hid (BytesIn (wr.setCell ⟨w.heap.size, k, none⟩ (.int .u8 (32 : UInt8).toNat)) w.heap.size (L.set k 32) ∧ Below w.heap.size w (wr.setCell ⟨w.heap.size, k, none⟩ (.int .u8 (32 : UInt8).toNat))) := ⟨(unhide hh).1.set k hkL 32, (unhide hh).2.1.setCell (p := ⟨w.heap.size, k, none⟩) (Nat.le_refl _) _⟩
      have heq := (unhide hh).2.2
      rw [hst] at heq
      by_cases h10 : L[k] = 10
      · have e1 : Pl.inNext L[k] fl = false := by rw [h10]; rfl
        have e2 : Pl.clearB L[k] fl = 32 := by unfold Pl.clearB; rw [if_pos (.inr h10)]
        have HE : Hid ((L.set k 32).take (k + 1) ++ Pl.clear ((L.set k 32).drop (k + 1)) false = Pl.clear l false) := by
          rw [htk, hdr, List.append_assoc]; rw [e1, e2] at heq; exact heq
        rw [h10] at hc
        clear heq hst htk htk0 hdr e1 e2 h10 hh
        go_wp2
        go_roundw
        case rel => exact ⟨k + 1, false, L.set k 32, by omega, by simpa using hL, by go_num, rfl, (unhide HS).1, (unhide HS).2, unhide HE⟩
        case measure => simp [intOf]; omega
      · by_cases h35 : L[k] = 35
        · have e1 : Pl.inNext L[k] fl = true := by rw [h35]; rfl
          have e2 : Pl.clearB L[k] fl = 32 := by unfold Pl.clearB; rw [if_pos (.inl e1)]
          have HE : Hid ((L.set k 32).take (k + 1) ++ Pl.clear ((L.set k 32).drop (k + 1)) true = Pl.clear l false) := by
            rw [htk, hdr, List.append_assoc]; rw [e1, e2] at heq; exact heq
          rw [h35] at hc
          clear heq hst htk htk0 hdr e1 e2 h10 h35 hh
          go_wp2
          go_roundw
          case rel => exact ⟨k + 1, true, L.set k 32, by omega, by simpa using hL, by go_num, rfl, (unhide HS).1, (unhide HS).2, unhide HE⟩
          case measure => simp [intOf]; omega
        · have e1 : Pl.inNext L[k] fl = fl := by unfold Pl.inNext; rw [if_neg h10, if_neg h35]
          have n1 : ((L[k].toNat : Int) == 35) = false := by
            rw [beq_eq_false_iff_ne]; intro e; exact h35 (UInt8.toNat_inj.1 (by have e2 : (35 : UInt8).toNat = 35 := rfl; omega))
          have n2 : ((L[k].toNat : Int) == 10) = false := by
            rw [beq_eq_false_iff_ne]; intro e; exact h10 (UInt8.toNat_inj.1 (by have e2 : (10 : UInt8).toNat = 10 := rfl; omega))
          cases fl with
          | true =>
            have e2 : Pl.clearB L[k] true = 32 := by unfold Pl.clearB; rw [if_pos (.inl e1)]
            have HE : Hid ((L.set k 32).take (k + 1) ++ Pl.clear ((L.set k 32).drop (k + 1)) true = Pl.clear l false) := by
              rw [htk, hdr, List.append_assoc]; rw [e1, e2] at heq; exact heq
            clear heq hst htk htk0 hdr e1 e2 h10 h35 hh
            generalize (L[k]).toNat = cn at *
            go_wp2
            go_roundw
            case rel => exact ⟨k + 1, true, L.set k 32, by omega, by simpa using hL, by go_num, rfl, (unhide HS).1, (unhide HS).2, unhide HE⟩
            case measure => simp [intOf]; omega
          | false =>
            have e2 : Pl.clearB L[k] false = L[k] := by unfold Pl.clearB; rw [e1, if_neg (by simp [h10])]
            have HE : Hid (L.take (k + 1) ++ Pl.clear (L.drop (k + 1)) false = Pl.clear l false) := by
              rw [htk0, List.append_assoc]; rw [e1, e2] at heq; exact heq
            have HK : Hid (BytesIn wr w.heap.size L ∧ Below w.heap.size w wr) := ⟨(unhide hh).1, (unhide hh).2.1⟩
            clear heq hst htk htk0 hdr e1 e2 h10 h35 hh HS
            generalize (L[k]).toNat = cn at *
            go_wp2
            go_roundw
            case rel => exact ⟨k + 1, false, L, by omega, hL, by go_num, rfl, (unhide HK).1, (unhide HK).2, unhide HE⟩
            case measure => simp [intOf]; omega
    · have hkk : k = l.length := by omega
      subst hkk
      have hfin := (unhide hh).2.2
      rw [List.take_of_length_le (by omega), List.drop_eq_nil_of_le (by omega), Pl.clear, List.append_nil] at hfin
      have HB := hide (unhide hh).2.1
      have hcv2 : (convert 197 9 (.slice (some ⟨w.heap.size, 0, none⟩) l.length cap)).run Tryz.prog wr = .ok (.string ⟨L.toArray⟩) wr := by
        have := run_convert_bytes_back (P := Tryz.prog) wr 197 9 5 ⟨w.heap.size, 0, none⟩ cap L Tryz.underlying197 Tryz.underlying5 Tryz.underlying9 (fun j hj => by
          have e3 : (⟨w.heap.size, 0, none⟩ : Addr).add j = ⟨w.heap.size, j, none⟩ := by unfold Addr.add; split <;> simp_all
          rw [e3]; exact (unhide hh).1.cells j hj)
        rw [hL] at this; exact this
      have HF := hide hfin
      clear hh hfin
      go_wp2
      go_ret
      exact ⟨by rw [← unhide HF]; rfl, unhide HB⟩
end Go.Proofs.YtfaljekgpnbmiaaGreat

/-
  Contracts of the reference's Tokens and Print.
-/
namespace Go.Proofs.YtfaljekgpnbmiaaGreat
open Go.RowKit

theorem scanB_blank (l cur : List UInt8) (k : Nat) (hk : k < l.length) (h : l[k] = 32) : Pl.scanB (l.drop k) cur = Pl.emit cur (Pl.scanB (l.drop (k + 1)) []) := by
  rw [List.drop_eq_getElem_cons hk, Pl.scanB, if_pos h]
theorem scanB_more (l cur : List UInt8) (k : Nat) (hk : k < l.length) (h : l[k] ≠ 32) : Pl.scanB (l.drop k) cur = Pl.scanB (l.drop (k + 1)) (cur ++ [l[k]]) := by
  rw [List.drop_eq_getElem_cons hk, Pl.scanB, if_neg h]
/-- The bytes from number a to ahead of number b. -/
def Pl.cut (l : List UInt8) (a b : Nat) : List UInt8 := (l.drop a).take (b - a)
theorem cut_more (l : List UInt8) (a b : Nat) (hab : a ≤ b) (hb : b < l.length) : Pl.cut l a (b + 1) = Pl.cut l a b ++ [l[b]] := by
  unfold Pl.cut
  rw [show b + 1 - a = (b - a) + 1 by omega, List.take_add_one, List.getElem?_drop, show a + (b - a) = b by omega, List.getElem?_eq_getElem hb]; rfl
theorem cut_self (l : List UInt8) (a : Nat) : Pl.cut l a a = [] := by unfold Pl.cut; simp
theorem cut_len (l : List UInt8) (a b : Nat) (hb : b ≤ l.length) : (Pl.cut l a b).length = b - a := by unfold Pl.cut; rw [List.length_take, List.length_drop]; omega

set_option maxRecDepth 100000 in
set_option maxHeartbeats 1000000 in
theorem Tokens_ref (l : List UInt8) (w : World) (hl : l.length ≤ 6000) :
    Calls Tryz.prog 107 #[.string ⟨l.toArray⟩] w fun e w' => ∃ v, e = .returned v ∧ StrsOwn w.heap.size w' v (Pl.tokens l) ∧ Below w.heap.size w w' := by
  obtain ⟨i0, hi, hz0, hz1, hz2⟩ := info_parts Tryz.infoStr
  have hC := cleared_ref l w hl
  have hlen := Pl.clear_len l false
  have HT := hide (Pl.tokens_clear l)
  have happ := ByteArray.mk_append_mk (Pl.clear l false) [32]
  have hlen2 : (Pl.clear l false ++ [32]).length = l.length + 1 := by simp [hlen]
  generalize hD : Pl.clear l false ++ [32] = D at *
  generalize Pl.clear l false = C at *
  unfold strV at hC
  clear hD
  go_enter Tryz.func107, Tryz.ntmps107
  go_wp2_with fail
  refine hC.mono ?_
  rintro e w1 ⟨rfl, hb1⟩
  have HB1 := hide hb1
  clear hC hb1
  go_wp2_with fail
  go_loopw [4, 5, 6] (fun v fr i wr => ∃ (k f : Nat) (acc : List (List UInt8)), k ≤ D.length ∧ f ≤ k ∧ acc.length ≤ k ∧ i = .int .i64 k ∧ fr = .int .i64 f ∧ StrsOwn w.heap.size wr v acc ∧ Below w.heap.size w wr ∧ Hid (acc ++ Pl.scanB (D.drop k) (Pl.cut D f k) = Pl.tokens l)) (fun _ _ i _ => D.length - (intOf i).toNat)
  case atStart => exact ⟨0, 0, [], by omega, by omega, by simp, rfl, rfl, World.ownsRow_nil _ _ _ _, unhide HB1, by have := unhide HT; simpa [Pl.cut, Hid] using this⟩
  case round =>
    obtain ⟨k, f, acc, hk, hfk, hacc, rfl, rfl, hown, hbel, hr⟩ := hrel
    clear HB1 HT happ
    by_cases hlt : k < D.length
    · have hb := bget D k hlt
      by_cases h32 : D[k] = 32
      · have hr2 := hr.out
        rw [scanB_blank D _ k hlt h32] at hr2
        have hr3 : Hid (acc ++ Pl.emit (Pl.cut D f k) (Pl.scanB (D.drop (k + 1)) (Pl.cut D (k + 1) (k + 1))) = Pl.tokens l) := by rw [cut_self]; exact hr2
        rw [h32] at hb
        have hcl := cut_len D f k hk
        clear hr hr2 h32
        by_cases hlf : f < k
        · have hx : (ByteArray.mk D.toArray).extract f k = ⟨(Pl.cut D f k).toArray⟩ := bext _ _ _
          have hr4 : Hid ((acc ++ [Pl.cut D f k]) ++ Pl.scanB (D.drop (k + 1)) (Pl.cut D (k + 1) (k + 1)) = Pl.tokens l) := by
            have := hr3.out; unfold Pl.emit at this; rw [if_neg (by intro e; rw [e] at hcl; simp at hcl; omega)] at this; simpa [Hid] using this
          generalize Pl.cut D f k = tk at *
          clear hr3
          go_wp2_with (at_builtin; refine wpList_append_own _ rfl _ _ 102 rfl w.heap.size 9 i0 (.string ⟨#[]⟩) 1 16 Tryz.underlying102 hi hz0 hz1 hz2 rfl (by decide) _ _ _ rfl (World.ownsRow.alloc hown _) ⟨_, 0, none⟩ 1 1 [strV tk] rfl rfl ?c1 (one_cell _) ?c3 ?c4 ?c5 ?_)
          case c1 => exact one_news (strV tk)
          case c3 => unfold maxLen; omega
          case c4 => omega
          case c5 => have := hbel.size; simp; omega
          · intro v' w2 hown' hgrow _
            have hA := StrsOwn.grown hown'
            have hB := (hbel.alloc hbel.size (Obj.cells #[Value.string ⟨tk.toArray⟩] 9)).grown hgrow (by have := hbel.size; simp; omega) (own_base hown)
            clear hown' hgrow hown hbel hx hb
            go_wp2
            go_roundw
            case rel => exact ⟨k + 1, k + 1, acc ++ [tk], by omega, by omega, by simp; omega, by go_num, by go_num, hA, hB, hr4.out⟩
            case measure => simp [intOf]; omega
        · have hr4 : Hid (acc ++ Pl.scanB (D.drop (k + 1)) (Pl.cut D (k + 1) (k + 1)) = Pl.tokens l) := by
            have := hr3.out
            have e0 : Pl.cut D f k = [] := List.eq_nil_of_length_eq_zero (by omega)
            unfold Pl.emit at this; rw [if_pos e0] at this; exact this
          clear hr3
          go_wp2
          go_roundw
          case rel => exact ⟨k + 1, k + 1, acc, by omega, by omega, by omega, by go_num, by go_num, hown, hbel, hr4.out⟩
          case measure => simp [intOf]; omega
      · have hr2 : Hid (acc ++ Pl.scanB (D.drop (k + 1)) (Pl.cut D f (k + 1)) = Pl.tokens l) := by
          have := hr.out; rw [scanB_more D _ k hlt h32, ← cut_more D f k hfk hlt] at this; exact this
        have n1 : ((D[k].toNat : Int) == 32) = false := by
          rw [beq_eq_false_iff_ne]; intro e; exact h32 (UInt8.toNat_inj.1 (by have e2 : (32 : UInt8).toNat = 32 := rfl; omega))
        clear hr h32
        generalize D[k] = c at *
        go_wp2
        go_roundw
        case rel => exact ⟨k + 1, f, acc, by omega, by omega, by omega, by go_num, rfl, hown, hbel, hr2.out⟩
        case measure => simp [intOf]; omega
    · have hsc : Hid (acc = Pl.tokens l) := by have := hr.out; rw [List.drop_eq_nil_of_le (by omega)] at this; simpa [Pl.scanB, Hid] using this
      clear hr
      go_wp2
      go_ret
      rw [hsc.out] at hown
      exact ⟨_, rfl, hown, hbel⟩
end Go.Proofs.YtfaljekgpnbmiaaGreat

/-
  The contract of the reference's Print; lists of strings that are read.
-/
namespace Go.Proofs.YtfaljekgpnbmiaaGreat
open Go.RowKit

/-- A slice of strings that reads as l. -/
def StrsAt (w : World) (v : Value) (l : List (List UInt8)) : Prop :=
  ∃ ad cap, v = .slice ad l.length cap ∧ ∀ i, i < l.length → ∃ g, ad = some ⟨g, 0, none⟩ ∧ w.cell? ⟨g, i, none⟩ = some (.string ⟨(l.getD i []).toArray⟩)
theorem strs_at {B : Nat} {w : World} {v : Value} {l : List (List UInt8)} (h : StrsOwn B w v l) : StrsAt w v l := strs_shape h
theorem StrsAt.below {w w' : World} {v : Value} {l : List (List UInt8)} (h : StrsAt w v l) (hb : Below w.heap.size w w') : StrsAt w' v l := by
  obtain ⟨ad, cap, e, hc⟩ := h
  refine ⟨ad, cap, e, fun i hi => ?_⟩
  obtain ⟨g, e1, e2⟩ := hc i hi
  exact ⟨g, e1, cell_low hb (lt_of_cell e2) e2⟩
theorem StrsAt.get {w : World} {ad : Option Addr} {n cap : Nat} {l : List (List UInt8)} (h : StrsAt w (.slice ad n cap) l) (i : Nat) (hi : i < l.length) : ∃ g, ad = some ⟨g, 0, none⟩ ∧ w.cell? ⟨g, i, none⟩ = some (.string ⟨(l.getD i []).toArray⟩) := by
  obtain ⟨ad', cap', e, hc⟩ := h
  simp only [Value.slice.injEq] at e
  obtain ⟨g, e1, e2⟩ := hc i hi
  exact ⟨g, e.1.trans e1, e2⟩
theorem StrsAt.shape {w : World} {v : Value} {l : List (List UInt8)} (h : StrsAt w v l) : ∃ ad cap, v = .slice ad l.length cap := by
  obtain ⟨ad, cap, e, _⟩ := h
  exact ⟨ad, cap, e⟩

theorem tok_len_wide (toks : List (List UInt8)) : ∀ t ∈ toks, t.length ≤ Pl.wide toks := by
  induction toks with
  | nil => intro t ht; simp at ht
  | cons u r ih =>
    intro t ht
    have e : Pl.wide (u :: r) = u.length + 1 + Pl.wide r := by simp [Pl.wide]
    rw [e]
    rcases List.mem_cons.1 ht with rfl | ht
    · omega
    · have := ih t ht; omega

set_option maxRecDepth 100000 in
set_option maxHeartbeats 1000000 in
theorem Print_ref (toks : List (List UInt8)) (v : Value) (w : World) (h : StrsAt w v toks) (hg : ∀ t ∈ toks, Pl.NoSp t) (hne : toks ≠ []) (hw : Pl.wide toks ≤ 10000) :
    Calls Tryz.prog 75 #[v] w fun e w' => e = .returned (strV (Pl.linesOf toks)) ∧ w' = w := by
  obtain ⟨ad, cp, rfl, hcell⟩ := h
  have hlen : toks.length ≤ 10000 := by
    have : toks.length ≤ Pl.wide toks := by
      unfold Pl.wide
      clear hcell hg hne hw
      induction toks with
      | nil => simp
      | cons t r ih => simp; omega
    omega
  have HC := hide hcell
  have HG := hide hg
  have HN := hide hne
  have HLT := hide (tok_len_wide toks)
  clear hcell hg hne
  have happ := ByteArray.mk_append_mk
  go_enter Tryz.func75, Tryz.ntmps75
  go_wp2
  go_loop [3, 4] (fun s i => ∃ k : Nat, k ≤ toks.length ∧ i = .int .i64 k ∧ s = .string ⟨(Pl.linesHead (toks.take k)).toArray⟩) (fun _ i => toks.length - (intOf i).toNat)
  case atStart => exact ⟨0, by omega, rfl, rfl⟩
  case round =>
    obtain ⟨k, hk, rfl, rfl⟩ := hrel
    by_cases hlt : k < toks.length
    · obtain ⟨g0, rfl, hc⟩ := unhide HC k hlt
      have hmem : toks.getD k [] ∈ toks := by rw [List.getD_eq_getElem?_getD, List.getElem?_eq_getElem hlt]; exact List.getElem_mem _
      have hns := unhide HG _ hmem
      have htl := unhide HLT _ hmem
      have htk : toks.take (k + 1) = toks.take k ++ [toks.getD k []] := by rw [List.take_add_one, List.getElem?_eq_getElem hlt, List.getD_eq_getElem?_getD, List.getElem?_eq_getElem hlt]; rfl
      have hwd3 := Pl.linesHead_len (toks.take k)
      have hwd4 := Pl.wide_take toks k
      have hlz : (toks.take k).length = k := by rw [List.length_take]; omega
      have hH := hide (fun w => holds_ref (Pl.pad Pl.headWords) (toks.getD k []) w (by decide) (by omega))
      rw [Pl.holds_heads _ hns] at hH
      have hkw : Pl.pad Pl.headWords = [32, 105, 110, 32, 108, 101, 116, 32, 115, 101, 116, 32, 111, 117, 116, 32] := by decide
      rw [hkw] at hH
      clear hkw hmem hns
      generalize toks.getD k [] = t at *
      by_cases h0 : k = 0
      · subst h0
        have HT : Hid (Pl.linesHead (toks.take (0 + 1)) = t) := by rw [htk]; simp [Pl.linesHead, Pl.linesFrom, Hid]
        have e1 : Pl.linesHead (toks.take 0) = [] := rfl
        rw [e1]
        clear e1 htk hlz hwd3 hwd4
        generalize decide (t = Pl.kIn ∨ t = Pl.kLet ∨ t = Pl.kSet ∨ t = Pl.kOut) = bb at *
        go_wp2_with fail
        refine (unhide hH _).mono ?_
        rintro e w' ⟨rfl, hw'⟩
        rw [hw']
        clear hw' w' hH
        go_wp2
        go_round
        case rel => exact ⟨0 + 1, by omega, by go_num, by rw [unhide HT]⟩
        case measure => simp [intOf]; omega
      · have hk0 : 0 < k := by omega
        have HT := hide (show Pl.linesHead (toks.take (k + 1)) = Pl.linesHead (toks.take k) ++ [Pl.gapOf t] ++ t by
          rw [htk, Pl.linesHead_snoc _ _ (by intro e; rw [e] at hlz; simp at hlz; omega)])
        clear htk hlz h0
        generalize Pl.linesHead (toks.take k) = L at *
        by_cases hh : t = Pl.kIn ∨ t = Pl.kLet ∨ t = Pl.kSet ∨ t = Pl.kOut
        · have e1 : Pl.gapOf t = 10 := by unfold Pl.gapOf; rw [if_pos hh]
          rw [e1] at HT
          rw [decide_eq_true hh] at hH
          clear e1 hh
          go_wp2_with fail
          refine (unhide hH _).mono ?_
          rintro e w' ⟨rfl, hw'⟩
          rw [hw']
          clear hw' w' hH
          go_wp2
          go_round
          case rel => exact ⟨k + 1, by omega, by go_num, by rw [unhide HT]; simp⟩
          case measure => simp [intOf]; omega
        · have e1 : Pl.gapOf t = 32 := by unfold Pl.gapOf; rw [if_neg hh]
          rw [e1] at HT
          rw [decide_eq_false hh] at hH
          clear e1 hh
          go_wp2_with fail
          refine (unhide hH _).mono ?_
          rintro e w' ⟨rfl, hw'⟩
          rw [hw']
          clear hw' w' hH
          go_wp2
          go_round
          case rel => exact ⟨k + 1, by omega, by go_num, by rw [unhide HT]; simp⟩
          case measure => simp [intOf]; omega
    · have e1 : toks.take k = toks := List.take_of_length_le (by omega)
      have hwd3 := Pl.linesHead_len toks
      have HL := hide (Pl.linesOf_eq toks (unhide HN))
      rw [e1]
      clear e1
      generalize Pl.linesHead toks = L at *
      go_wp2
      go_ret
      exact ⟨by rw [unhide HL]; rfl, rfl⟩
end Go.Proofs.YtfaljekgpnbmiaaGreat
