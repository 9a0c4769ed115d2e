/- Joined: Print1 Ref3 Ref4. -/
import Derived.Test.YtbbdkgfdeghdfaaGreatJ14
/-
  Contracts of token.gap and token.Lines: what is printed.
-/
namespace Go.Proofs.YtbbdkgfdeghdfaaGreat
open Go.RowKit

def byteV (c : UInt8) : Value := .int .u8 c.toNat
def BytesOwn (B : Nat) (w : World) (v : Value) (l : List UInt8) : Prop := w.ownsRow B 5 1 v l.length (l.map byteV)
theorem Tryz.infoByte : (Tryz.prog.info? 5).map (fun i => (i.zero, i.size, i.bytes)) = some (some (.int .u8 0), 1, 1) := by kernel_rfl

set_option maxHeartbeats 1000000 in
theorem gap_any (t : List UInt8) (w : World) :
    Calls Tryz.prog 94 #[.string ⟨t.toArray⟩] w fun e w' => e = .returned (byteV (Pl.gapOf t)) ∧ w' = w := by
  by_cases h : t = Pl.kIn ∨ t = Pl.kLet ∨ t = Pl.kSet ∨ t = Pl.kOut
  · have hx : Hid (byteV (Pl.gapOf t) = .int .u8 10) := by unfold Pl.gapOf Hid; rw [if_pos h]; rfl
    simp only [Pl.kIn, Pl.kLet, Pl.kSet, Pl.kOut] at h
    rw [hx.out]
    clear hx
    rcases h with rfl | rfl | rfl | rfl
    all_goals
      go_enter Tryz.func94, Tryz.ntmps94
      go_wp2
      go_ret
      exact ⟨rfl, rfl⟩
  · have hx : Hid (byteV (Pl.gapOf t) = .int .u8 32) := by unfold Pl.gapOf Hid; rw [if_neg h]; rfl
    have h1 : (t == Pl.kIn) = false := by rw [beq_eq_false_iff_ne]; intro e; exact h (.inl e)
    have h2 : (t == Pl.kLet) = false := by rw [beq_eq_false_iff_ne]; intro e; exact h (.inr (.inl e))
    have h3 : (t == Pl.kSet) = false := by rw [beq_eq_false_iff_ne]; intro e; exact h (.inr (.inr (.inl e)))
    have h4 : (t == Pl.kOut) = false := by rw [beq_eq_false_iff_ne]; intro e; exact h (.inr (.inr (.inr e)))
    simp only [Pl.kIn, Pl.kLet, Pl.kSet, Pl.kOut] at h1 h2 h3 h4
    rw [hx.out]
    clear hx h
    go_enter Tryz.func94, Tryz.ntmps94
    go_wp2
    go_ret
    exact ⟨rfl, rfl⟩

theorem strCells_mk (l : List UInt8) : Go.Lib.strCells ⟨l.toArray⟩ = l.map byteV := by simp [Go.Lib.strCells, byteV]
theorem byte_news {w w0 : World} (g : Nat) (c : UInt8) (h : w0.heap[g]? = some (.cells #[byteV c] 5 (0, 0))) (hw : w.heap = w0.heap) : ∀ j u, [byteV c][j]? = some u → w.cell? ((⟨g, 0, none⟩ : Addr).add j) = some u := news_far g #[byteV c] 5 h hw
theorem byte_cell (c : UInt8) : ∀ u ∈ [byteV c], u.oneCell' = true := by intro u hu; simp at hu; subst hu; rfl

theorem bytes_cells {B : Nat} {w : World} {g n c : Nat} {l : List UInt8} (h : BytesOwn B w (.slice (some ⟨g, 0, none⟩) n c) l) (j : Nat) (hj : j < l.length) : w.cell? ((⟨g, 0, none⟩ : Addr).add j) = some (.int .u8 (l[j]).toNat) := by
  have hc := World.ownsRow.cells h (g := g) rfl j (byteV l[j]) (by rw [List.getElem?_map, List.getElem?_eq_getElem hj]; rfl)
  exact hc
theorem lt_of_cell {w : World} {a : Addr} {v : Value} (h : w.cell? a = some v) : a.block < w.heap.size := by
  unfold World.cell? at h
  split at h
  · rename_i hx; exact lt_of_block hx
  · cases h
theorem cell_low {w w' : World} {a : Addr} {v : Value} (hb : Below w.heap.size w w') (hlt : a.block < w.heap.size) (h : w.cell? a = some v) : w'.cell? a = some v := by
  rw [← h]
  unfold World.cell?
  rw [hb.block a.block hlt]

set_option maxRecDepth 100000 in
set_option maxHeartbeats 2000000 in
theorem Lines_any (toks : List (List UInt8)) (B : Nat) (v : Value) (w : World) (h : StrsOwn B w v toks) (hg : ∀ t ∈ toks, t ≠ []) (hne : toks ≠ []) (hw : Pl.wide toks ≤ 10000) :
    Calls Tryz.prog 64 #[v] w fun e w' => e = .returned (strV (Pl.linesOf toks)) ∧ Below w.heap.size w w' := by
  obtain ⟨i0, hi, hz0, hz1, hz2⟩ := info_parts Tryz.infoByte
  obtain ⟨ad, cp, rfl, hcell⟩ := strs_shape h
  have hlen : toks.length ≤ 10000 := by
    have : toks.length ≤ Pl.wide toks := by
      unfold Pl.wide
      clear hcell h hg hne hw
      induction toks with
      | nil => simp
      | cons t r ih => simp; omega
    omega
  have HC := hide hcell
  have HG := hide hg
  have HN := hide hne
  clear h hcell hg hne
  go_enter Tryz.func64, Tryz.ntmps64
  go_wp2
  go_loopw [3, 4] (fun x i wr => ∃ (k : Nat) (ax : Option Addr) (nx cx : Nat), k ≤ toks.length ∧ i = .int .i64 k ∧ x = .slice ax nx cx ∧ Hid (BytesOwn w.heap.size wr (.slice ax nx cx) (Pl.linesHead (toks.take k)) ∧ Below w.heap.size w wr)) (fun _ i _ => toks.length - (intOf i).toNat)
  case atStart => exact ⟨0, none, 0, 0, by omega, rfl, rfl, World.ownsRow_nil _ _ _ _, Below.refl _ _⟩
  case round =>
    obtain ⟨k, ax, nx, cx, hk, rfl, rfl, hh⟩ := hrel
    by_cases hlt : k < toks.length
    · obtain ⟨g0, rfl, hc0⟩ := unhide HC k hlt
      have hc := cell_low (unhide hh).2 (lt_of_cell hc0) hc0
      have ht0 : toks.getD k [] ≠ [] := by rw [List.getD_eq_getElem?_getD, List.getElem?_eq_getElem hlt]; exact unhide HG _ (List.getElem_mem _)
      have htk : toks.take (k + 1) = toks.take k ++ [toks.getD k []] := by rw [List.take_add_one, List.getElem?_eq_getElem hlt, List.getD_eq_getElem?_getD, List.getElem?_eq_getElem hlt]; rfl
      have hwd := Pl.linesHead_len (toks.take (k + 1))
      have hwd2 := Pl.wide_take toks (k + 1)
      have hwd3 := Pl.linesHead_len (toks.take k)
      have hwd4 := Pl.wide_take toks k
      have hlz : (toks.take k).length = k := by rw [List.length_take]; omega
      generalize toks.getD k [] = t at *
      have HC0 := hide hc0
      unfold strV at hc
      clear hc0
      have hs1 := (unhide hh).2.size
      by_cases h0 : k = 0
      · subst h0
        have e0 : toks.take 0 = [] := rfl
        rw [e0] at hh htk
        have e1 : Pl.linesHead (toks.take (0 + 1)) = t := by rw [htk]; simp [Pl.linesHead, Pl.linesFrom]
        have hown : BytesOwn w.heap.size wr (.slice ax nx cx) [] := (unhide hh).1
        have HB := hide (unhide hh).2
        rw [e1] at hwd
        have HT := hide e1
        clear e0 hh htk e1 hlz
        go_wp2_with (at_builtin; refine Go.Lib.wpList_append_own_string _ rfl _ _ 137 9 rfl w.heap.size 5 i0 Tryz.underlying137 Tryz.underlying9 hi hz0 hz1 hz2 _ _ _ rfl hown ⟨t.toArray⟩ rfl ?c1 ?c2 hs1 ?_)
        case c1 => simp only [ByteArray.size, List.size_toArray, List.length_nil]; unfold maxLen; omega
        case c2 => simp only [ByteArray.size, List.size_toArray, List.length_nil]; omega
        · intro v' w1 hown' hgrow hnil
          have HO : Hid (BytesOwn w.heap.size w1 v' t ∧ Below w.heap.size w w1) := by
            refine ⟨?_, (unhide HB).grown hgrow hs1 (own_base hown)⟩
            unfold BytesOwn
            rw [strCells_mk] at hown'
            simpa [ByteArray.size] using hown'
          obtain ⟨ad', cp', hv'⟩ := slice_shape (unhide HO).1
          subst hv'
          clear hown' hgrow hown HB hc
          go_wp2
          go_roundw
          case rel => exact ⟨0 + 1, _, _, _, by omega, by go_num, rfl, by rw [unhide HT]; exact HO⟩
          case measure => simp [intOf]; omega
      · have hk0 : 0 < k := by omega
        have e1 : Pl.linesHead (toks.take (k + 1)) = Pl.linesHead (toks.take k) ++ [Pl.gapOf t] ++ t := by
          rw [htk, Pl.linesHead_snoc _ _ (by intro e; rw [e] at hlz; simp at hlz; omega)]
        rw [e1] at hwd
        have HT := hide e1
        have hown : BytesOwn w.heap.size wr (.slice ax nx cx) (Pl.linesHead (toks.take k)) := (unhide hh).1
        have HB := hide (unhide hh).2
        clear hh htk e1 hlz h0
        generalize Pl.linesHead (toks.take k) = L at *
        have hG := hide (fun w => gap_any t w)
        generalize Pl.gapOf t = gp at *
        unfold byteV at hG
        simp only [List.length_append, List.length_singleton] at hwd
        go_wp2_with fail
        refine (unhide hG _).mono ?_
        rintro e w' ⟨rfl, hw'⟩
        rw [hw']
        clear hw' w' hG
        have hal : BytesOwn w.heap.size (wr.alloc (.cells #[.int .u8 gp.toNat] 5)) (.slice ax nx cx) L := World.ownsRow.alloc hown _
        go_wp2_with (at_builtin; refine wpList_append_lies _ rfl _ _ 137 rfl w.heap.size 5 i0 (.int .u8 0) 1 1 Tryz.underlying137 hi hz0 hz1 hz2 rfl (by decide) _ _ _ rfl hal ⟨_, 0, none⟩ 1 1 [byteV gp] rfl rfl ?d1 (byte_cell gp) (by decide) ?d2 ?d3 ?d4 _ rfl ?_)
        case d1 => exact byte_news _ gp (heap_alloc_new wr _) rfl
        case d2 => unfold maxLen; omega
        case d3 => omega
        case d4 => simp; omega
        · intro g1 cp1 w1 hown' hgrow _ _
          have HO : Hid (Below w.heap.size w w1) := ((unhide HB).alloc hs1 _).grown hgrow (by simp; omega) (own_base hal)
          have hown1 : BytesOwn w.heap.size w1 (.slice (some ⟨g1, 0, none⟩) (L.length + 1) cp1) (L ++ [gp]) := by
            unfold BytesOwn
            simpa using hown'
          have hc1 := cell_low (unhide HO) (lt_of_cell (unhide HC0)) (unhide HC0)
          unfold strV at hc1
          have hs2 := (unhide HO).size
          clear hown' hgrow hown hal HB hc
          go_wp2_with (at_builtin; refine Go.Lib.wpList_append_own_string _ rfl _ _ 137 9 rfl w.heap.size 5 i0 Tryz.underlying137 Tryz.underlying9 hi hz0 hz1 hz2 _ _ _ rfl hown1 ⟨t.toArray⟩ rfl ?e1 ?e2 hs2 ?_)
          case e1 => simp only [ByteArray.size, List.size_toArray, List.length_append, List.length_singleton]; unfold maxLen; omega
          case e2 => simp only [ByteArray.size, List.size_toArray, List.length_append, List.length_singleton]; omega
          · intro v2 w2 hown2 hgrow2 _
            have HO2 : Hid (BytesOwn w.heap.size w2 v2 (L ++ [gp] ++ t) ∧ Below w.heap.size w w2) := by
              refine ⟨?_, (unhide HO).grown hgrow2 hs2 (own_base hown1)⟩
              unfold BytesOwn
              rw [strCells_mk] at hown2
              have e3 : (L ++ [gp] ++ t).length = L.length + 1 + t.length := by simp; omega
              rw [e3]
              simpa [ByteArray.size] using hown2
            obtain ⟨ad', cp', hv'⟩ := slice_shape (unhide HO2).1
            subst hv'
            clear hown2 hgrow2 hown1 HO hc1
            go_wp2
            go_roundw
            case rel => exact ⟨k + 1, _, _, _, by omega, by go_num, rfl, by rw [unhide HT]; exact HO2⟩
            case measure => simp [intOf]; omega
    · have hkk : k = toks.length := by omega
      subst hkk
      have h0 : 0 < toks.length := List.length_pos_iff.mpr (unhide HN)
      have e1 : toks.take toks.length = toks := List.take_length
      rw [e1] at hh
      have hwd3 := Pl.linesHead_len toks
      have HL := hide (Pl.linesOf_eq toks (unhide HN))
      have hown : BytesOwn w.heap.size wr (.slice ax nx cx) (Pl.linesHead toks) := (unhide hh).1
      have HB := hide (unhide hh).2
      have hs1 := (unhide hh).2.size
      clear hh e1
      generalize Pl.linesHead toks = L at *
      have hal : BytesOwn w.heap.size (wr.alloc (.cells #[.int .u8 10] 5)) (.slice ax nx cx) L := World.ownsRow.alloc hown _
      go_wp2_with (at_builtin; refine wpList_append_lies _ rfl _ _ 137 rfl w.heap.size 5 i0 (.int .u8 0) 1 1 Tryz.underlying137 hi hz0 hz1 hz2 rfl (by decide) _ _ _ rfl hal ⟨_, 0, none⟩ 1 1 [byteV 10] rfl rfl ?d1 (byte_cell 10) (by decide) ?d2 ?d3 ?d4 _ rfl ?_)
      case d1 => exact byte_news _ 10 (heap_alloc_new wr _) rfl
      case d2 => unfold maxLen; omega
      case d3 => omega
      case d4 => simp; omega
      · intro g1 cp1 w1 hown' hgrow _ _
        have HO : Hid (Below w.heap.size w w1) := ((unhide HB).alloc hs1 _).grown hgrow (by simp; omega) (own_base hal)
        have hown1 : BytesOwn w.heap.size w1 (.slice (some ⟨g1, 0, none⟩) (L.length + 1) cp1) (L ++ [10]) := by
          unfold BytesOwn
          simpa using hown'
        have hcv : (convert 137 9 (.slice (some ⟨g1, 0, none⟩) (L.length + 1) cp1)).run Tryz.prog w1 = .ok (.string ⟨(L ++ [10]).toArray⟩) w1 := by
          have := run_convert_bytes_back (P := Tryz.prog) w1 137 9 5 ⟨g1, 0, none⟩ cp1 (L ++ [10]) Tryz.underlying137 Tryz.underlying5 Tryz.underlying9 (fun j hj => by
            have h3 := (bytes_cells hown1 j hj)
            exact h3)
          simpa using this
        clear hown' hgrow hown hal HB hown1
        go_wp2
        go_ret
        exact ⟨by rw [unhide HL]; rfl, unhide HO⟩
end Go.Proofs.YtbbdkgfdeghdfaaGreat

/-
  Contracts of the reference's cleared, Tokens and Print.
-/
namespace Go.Proofs.YtbbdkgfdeghdfaaGreat
open Go.RowKit

/-- Block g holds the bytes of L, and may be written. -/
structure BytesIn (w : World) (g : Nat) (L : List UInt8) : Prop where
  cells : ∀ j, (hj : j < L.length) → w.cell? ⟨g, j, none⟩ = some (.int .u8 (L[j]).toNat)
  free : ∀ j, j < L.length → w.frozen? ⟨g, j, none⟩ = false
theorem BytesIn.set {w : World} {g : Nat} {L : List UInt8} (h : BytesIn w g L) (k : Nat) (hk : k < L.length) (c : UInt8) : BytesIn (w.setCell ⟨g, k, none⟩ (.int .u8 c.toNat)) g (L.set k c) := by
  refine ⟨fun j hj => ?_, fun j hj => ?_⟩
  · by_cases e : j = k
    · subst e
      rw [World.cell?_setCell_same (h := h.cells j hk)]
      simp
    · rw [World.cell?_setCell_other (h := fun e2 => e (by have := congrArg Addr.off e2; simpa using this.symm)), h.cells j (by simpa using hj)]
      rw [List.getElem_set_ne (by omega)]
  · rw [World.frozen?_setCell]; exact h.free j (by simpa using hj)
theorem bytesRow_get (l : List UInt8) (cap j : Nat) (hj : j < l.length) : (bytesRow ⟨l.toArray⟩ cap)[j]? = some (.int .u8 (l[j]).toNat) := by
  unfold bytesRow
  rw [Array.getElem?_append_left (by simpa using hj)]
  simp [hj]
theorem BytesIn.fresh (w : World) (l : List UInt8) (cap : Nat) (T : TypeId) : BytesIn (w.alloc (.cells (bytesRow ⟨l.toArray⟩ cap) T ((bytesRow ⟨l.toArray⟩ cap).size, (bytesRow ⟨l.toArray⟩ cap).size + 1))) w.heap.size l := by
  have hb : (w.alloc (.cells (bytesRow ⟨l.toArray⟩ cap) T ((bytesRow ⟨l.toArray⟩ cap).size, (bytesRow ⟨l.toArray⟩ cap).size + 1))).heap[w.heap.size]? = some (.cells (bytesRow ⟨l.toArray⟩ cap) T ((bytesRow ⟨l.toArray⟩ cap).size, (bytesRow ⟨l.toArray⟩ cap).size + 1)) := heap_alloc_new w _
  have hsz : l.length ≤ (bytesRow ⟨l.toArray⟩ cap).size := by unfold bytesRow; simp
  refine ⟨fun j hj => ?_, fun j hj => ?_⟩
  · simp only [World.cell?, hb, Option.isSome_none, Bool.false_eq_true, if_false]
    exact bytesRow_get l cap j hj
  · simp only [World.frozen?, hb]
    simp; omega

set_option maxRecDepth 100000 in
set_option maxHeartbeats 1000000 in
theorem cleared_ref (l : List UInt8) (w : World) (hl : l.length ≤ 6000) :
    Calls Tryz.prog 85 #[.string ⟨l.toArray⟩] w fun e w' => e = .returned (strV (Pl.clear l false)) ∧ Below w.heap.size w w' := by
  have hcv := run_bytes_of_string (P := Tryz.prog) w 9 137 5 ⟨l.toArray⟩ Tryz.underlying9 Tryz.underlying137 Tryz.underlying5
  have hcap := grownCap_ge w l.length 0 5
  have hsz : (ByteArray.mk l.toArray).size = l.length := rfl
  rw [hsz] at hcv
  generalize grownCap w l.length 0 5 = cap at *
  have H0 : Hid (BytesIn (w.drew.alloc (.cells (bytesRow ⟨l.toArray⟩ cap) 5 ((bytesRow ⟨l.toArray⟩ cap).size, (bytesRow ⟨l.toArray⟩ cap).size + 1))) w.heap.size l ∧ Below w.heap.size w (w.drew.alloc (.cells (bytesRow ⟨l.toArray⟩ cap) 5 ((bytesRow ⟨l.toArray⟩ cap).size, (bytesRow ⟨l.toArray⟩ cap).size + 1)))) :=
    ⟨BytesIn.fresh w.drew l cap 5, (below_drewN (Below.refl _ w) 1).alloc (Nat.le_refl _) _⟩
  generalize (w.drew.alloc (.cells (bytesRow ⟨l.toArray⟩ cap) 5 ((bytesRow ⟨l.toArray⟩ cap).size, (bytesRow ⟨l.toArray⟩ cap).size + 1))) = W0 at *
  clear hsz
  go_enter Tryz.func85, Tryz.ntmps85
  go_wp2
  go_loopw [4, 5] (fun inn i wr => ∃ (k : Nat) (fl : Bool) (L : List UInt8), k ≤ l.length ∧ L.length = l.length ∧ i = .int .i64 k ∧ inn = .bool fl ∧ Hid (BytesIn wr w.heap.size L ∧ Below w.heap.size w wr ∧ L.take k ++ Pl.clear (L.drop k) fl = Pl.clear l false)) (fun _ i _ => l.length - (intOf i).toNat)
  case atStart => exact ⟨0, false, l, by omega, rfl, rfl, rfl, (unhide H0).1, (unhide H0).2, by simp⟩
  case round =>
    obtain ⟨k, fl, L, hk, hL, rfl, rfl, hh⟩ := hrel
    clear H0 hcv
    by_cases hlt : k < l.length
    · have hc := (unhide hh).1.cells k (by omega)
      have hf := (unhide hh).1.free k (by omega)
      have hkL : k < L.length := by omega
      have hst : Pl.clear (L.drop k) fl = Pl.clearB L[k] fl :: Pl.clear (L.drop (k + 1)) (Pl.inNext L[k] fl) := by rw [List.drop_eq_getElem_cons hkL, Pl.clear]
      have htk : ∀ c : UInt8, (L.set k c).take (k + 1) = L.take k ++ [c] := fun c => by
        rw [List.take_add_one, List.take_set_of_le (by omega), List.getElem?_set_self hkL]; rfl
      have htk0 : L.take (k + 1) = L.take k ++ [L[k]] := by rw [List.take_add_one, List.getElem?_eq_getElem hkL]; rfl
      have hdr : ∀ c : UInt8, (L.set k c).drop (k + 1) = L.drop (k + 1) := fun c => List.drop_set_of_lt (by omega)
      have HS : Hid (BytesIn (wr.setCell ⟨w.heap.size, k, none⟩ (.int .u8 (32 : UInt8).toNat)) w.heap.size (L.set k 32) ∧ Below w.heap.size w (wr.setCell ⟨w.heap.size, k, none⟩ (.int .u8 (32 : UInt8).toNat))) := ⟨(unhide hh).1.set k hkL 32, (unhide hh).2.1.setCell (p := ⟨w.heap.size, k, none⟩) (Nat.le_refl _) _⟩
      have heq := (unhide hh).2.2
      rw [hst] at heq
      by_cases h10 : L[k] = 10
      · have e1 : Pl.inNext L[k] fl = false := by rw [h10]; rfl
        have e2 : Pl.clearB L[k] fl = 32 := by unfold Pl.clearB; rw [if_pos (.inr h10)]
        have HE : Hid ((L.set k 32).take (k + 1) ++ Pl.clear ((L.set k 32).drop (k + 1)) false = Pl.clear l false) := by
          rw [htk, hdr, List.append_assoc]; rw [e1, e2] at heq; exact heq
        rw [h10] at hc
        clear heq hst htk htk0 hdr e1 e2 h10 hh
        go_wp2
        go_roundw
        case rel => exact ⟨k + 1, false, L.set k 32, by omega, by simpa using hL, by go_num, rfl, (unhide HS).1, (unhide HS).2, unhide HE⟩
        case measure => simp [intOf]; omega
      · by_cases h35 : L[k] = 35
        · have e1 : Pl.inNext L[k] fl = true := by rw [h35]; rfl
          have e2 : Pl.clearB L[k] fl = 32 := by unfold Pl.clearB; rw [if_pos (.inl e1)]
          have HE : Hid ((L.set k 32).take (k + 1) ++ Pl.clear ((L.set k 32).drop (k + 1)) true = Pl.clear l false) := by
            rw [htk, hdr, List.append_assoc]; rw [e1, e2] at heq; exact heq
          rw [h35] at hc
          clear heq hst htk htk0 hdr e1 e2 h10 h35 hh
          go_wp2
          go_roundw
          case rel => exact ⟨k + 1, true, L.set k 32, by omega, by simpa using hL, by go_num, rfl, (unhide HS).1, (unhide HS).2, unhide HE⟩
          case measure => simp [intOf]; omega
        · have e1 : Pl.inNext L[k] fl = fl := by unfold Pl.inNext; rw [if_neg h10, if_neg h35]
          have n1 : ((L[k].toNat : Int) == 35) = false := by
            rw [beq_eq_false_iff_ne]; intro e; exact h35 (UInt8.toNat_inj.1 (by have e2 : (35 : UInt8).toNat = 35 := rfl; omega))
          have n2 : ((L[k].toNat : Int) == 10) = false := by
            rw [beq_eq_false_iff_ne]; intro e; exact h10 (UInt8.toNat_inj.1 (by have e2 : (10 : UInt8).toNat = 10 := rfl; omega))
          cases fl with
          | true =>
            have e2 : Pl.clearB L[k] true = 32 := by unfold Pl.clearB; rw [if_pos (.inl e1)]
            have HE : Hid ((L.set k 32).take (k + 1) ++ Pl.clear ((L.set k 32).drop (k + 1)) true = Pl.clear l false) := by
              rw [htk, hdr, List.append_assoc]; rw [e1, e2] at heq; exact heq
            clear heq hst htk htk0 hdr e1 e2 h10 h35 hh
            generalize (L[k]).toNat = cn at *
            go_wp2
            go_roundw
            case rel => exact ⟨k + 1, true, L.set k 32, by omega, by simpa using hL, by go_num, rfl, (unhide HS).1, (unhide HS).2, unhide HE⟩
            case measure => simp [intOf]; omega
          | false =>
            have e2 : Pl.clearB L[k] false = L[k] := by unfold Pl.clearB; rw [e1, if_neg (by simp [h10])]
            have HE : Hid (L.take (k + 1) ++ Pl.clear (L.drop (k + 1)) false = Pl.clear l false) := by
              rw [htk0, List.append_assoc]; rw [e1, e2] at heq; exact heq
            have HK : Hid (BytesIn wr w.heap.size L ∧ Below w.heap.size w wr) := ⟨(unhide hh).1, (unhide hh).2.1⟩
            clear heq hst htk htk0 hdr e1 e2 h10 h35 hh HS
            generalize (L[k]).toNat = cn at *
            go_wp2
            go_roundw
            case rel => exact ⟨k + 1, false, L, by omega, hL, by go_num, rfl, (unhide HK).1, (unhide HK).2, unhide HE⟩
            case measure => simp [intOf]; omega
    · have hkk : k = l.length := by omega
      subst hkk
      have hfin := (unhide hh).2.2
      rw [List.take_of_length_le (by omega), List.drop_eq_nil_of_le (by omega), Pl.clear, List.append_nil] at hfin
      have HB := hide (unhide hh).2.1
      have hcv2 : (convert 137 9 (.slice (some ⟨w.heap.size, 0, none⟩) l.length cap)).run Tryz.prog wr = .ok (.string ⟨L.toArray⟩) wr := by
        have := run_convert_bytes_back (P := Tryz.prog) wr 137 9 5 ⟨w.heap.size, 0, none⟩ cap L Tryz.underlying137 Tryz.underlying5 Tryz.underlying9 (fun j hj => by
          have e3 : (⟨w.heap.size, 0, none⟩ : Addr).add j = ⟨w.heap.size, j, none⟩ := by unfold Addr.add; split <;> simp_all
          rw [e3]; exact (unhide hh).1.cells j hj)
        rw [hL] at this; exact this
      have HF := hide hfin
      clear hh hfin
      go_wp2
      go_ret
      exact ⟨by rw [← unhide HF]; rfl, unhide HB⟩
end Go.Proofs.YtbbdkgfdeghdfaaGreat

/-
  Contracts of the reference's Tokens and Print.
-/
namespace Go.Proofs.YtbbdkgfdeghdfaaGreat
open Go.RowKit

theorem scanB_blank (l cur : List UInt8) (k : Nat) (hk : k < l.length) (h : l[k] = 32) : Pl.scanB (l.drop k) cur = Pl.emit cur (Pl.scanB (l.drop (k + 1)) []) := by
  rw [List.drop_eq_getElem_cons hk, Pl.scanB, if_pos h]
theorem scanB_more (l cur : List UInt8) (k : Nat) (hk : k < l.length) (h : l[k] ≠ 32) : Pl.scanB (l.drop k) cur = Pl.scanB (l.drop (k + 1)) (cur ++ [l[k]]) := by
  rw [List.drop_eq_getElem_cons hk, Pl.scanB, if_neg h]
/-- The bytes from number a to ahead of number b. -/
def Pl.cut (l : List UInt8) (a b : Nat) : List UInt8 := (l.drop a).take (b - a)
theorem cut_more (l : List UInt8) (a b : Nat) (hab : a ≤ b) (hb : b < l.length) : Pl.cut l a (b + 1) = Pl.cut l a b ++ [l[b]] := by
  unfold Pl.cut
  rw [show b + 1 - a = (b - a) + 1 by omega, List.take_add_one, List.getElem?_drop, show a + (b - a) = b by omega, List.getElem?_eq_getElem hb]; rfl
theorem cut_self (l : List UInt8) (a : Nat) : Pl.cut l a a = [] := by unfold Pl.cut; simp
theorem cut_len (l : List UInt8) (a b : Nat) (hb : b ≤ l.length) : (Pl.cut l a b).length = b - a := by unfold Pl.cut; rw [List.length_take, List.length_drop]; omega

set_option maxRecDepth 100000 in
set_option maxHeartbeats 1000000 in
theorem Tokens_ref (l : List UInt8) (w : World) (hl : l.length ≤ 6000) :
    Calls Tryz.prog 60 #[.string ⟨l.toArray⟩] w fun e w' => ∃ v, e = .returned v ∧ StrsOwn w.heap.size w' v (Pl.tokens l) ∧ Below w.heap.size w w' := by
  obtain ⟨i0, hi, hz0, hz1, hz2⟩ := info_parts Tryz.infoStr
  have hC := cleared_ref l w hl
  have hlen := Pl.clear_len l false
  have HT := hide (Pl.tokens_clear l)
  have happ := ByteArray.mk_append_mk (Pl.clear l false) [32]
  have hlen2 : (Pl.clear l false ++ [32]).length = l.length + 1 := by simp [hlen]
  generalize hD : Pl.clear l false ++ [32] = D at *
  generalize Pl.clear l false = C at *
  unfold strV at hC
  clear hD
  go_enter Tryz.func60, Tryz.ntmps60
  go_wp2_with fail
  refine hC.mono ?_
  rintro e w1 ⟨rfl, hb1⟩
  have HB1 := hide hb1
  clear hC hb1
  go_wp2_with fail
  go_loopw [4, 5, 6] (fun v fr i wr => ∃ (k f : Nat) (acc : List (List UInt8)), k ≤ D.length ∧ f ≤ k ∧ acc.length ≤ k ∧ i = .int .i64 k ∧ fr = .int .i64 f ∧ StrsOwn w.heap.size wr v acc ∧ Below w.heap.size w wr ∧ Hid (acc ++ Pl.scanB (D.drop k) (Pl.cut D f k) = Pl.tokens l)) (fun _ _ i _ => D.length - (intOf i).toNat)
  case atStart => exact ⟨0, 0, [], by omega, by omega, by simp, rfl, rfl, World.ownsRow_nil _ _ _ _, unhide HB1, by have := unhide HT; simpa [Pl.cut, Hid] using this⟩
  case round =>
    obtain ⟨k, f, acc, hk, hfk, hacc, rfl, rfl, hown, hbel, hr⟩ := hrel
    clear HB1 HT happ
    by_cases hlt : k < D.length
    · have hb := bget D k hlt
      by_cases h32 : D[k] = 32
      · have hr2 := hr.out
        rw [scanB_blank D _ k hlt h32] at hr2
        have hr3 : Hid (acc ++ Pl.emit (Pl.cut D f k) (Pl.scanB (D.drop (k + 1)) (Pl.cut D (k + 1) (k + 1))) = Pl.tokens l) := by rw [cut_self]; exact hr2
        rw [h32] at hb
        have hcl := cut_len D f k hk
        clear hr hr2 h32
        by_cases hlf : f < k
        · have hx : (ByteArray.mk D.toArray).extract f k = ⟨(Pl.cut D f k).toArray⟩ := bext _ _ _
          have hr4 : Hid ((acc ++ [Pl.cut D f k]) ++ Pl.scanB (D.drop (k + 1)) (Pl.cut D (k + 1) (k + 1)) = Pl.tokens l) := by
            have := hr3.out; unfold Pl.emit at this; rw [if_neg (by intro e; rw [e] at hcl; simp at hcl; omega)] at this; simpa [Hid] using this
          generalize Pl.cut D f k = tk at *
          clear hr3
          go_wp2_with (at_builtin; refine wpList_append_own _ rfl _ _ 81 rfl w.heap.size 9 i0 (.string ⟨#[]⟩) 1 16 Tryz.underlying81 hi hz0 hz1 hz2 rfl (by decide) _ _ _ rfl (World.ownsRow.alloc hown _) ⟨_, 0, none⟩ 1 1 [strV tk] rfl rfl ?c1 (one_cell _) ?c3 ?c4 ?c5 ?_)
          case c1 => exact one_news (strV tk)
          case c3 => unfold maxLen; omega
          case c4 => omega
          case c5 => have := hbel.size; simp; omega
          · intro v' w2 hown' hgrow _
            have hA := StrsOwn.grown hown'
            have hB := (hbel.alloc hbel.size (Obj.cells #[Value.string ⟨tk.toArray⟩] 9)).grown hgrow (by have := hbel.size; simp; omega) (own_base hown)
            clear hown' hgrow hown hbel hx hb
            go_wp2
            go_roundw
            case rel => exact ⟨k + 1, k + 1, acc ++ [tk], by omega, by omega, by simp; omega, by go_num, by go_num, hA, hB, hr4.out⟩
            case measure => simp [intOf]; omega
        · have hr4 : Hid (acc ++ Pl.scanB (D.drop (k + 1)) (Pl.cut D (k + 1) (k + 1)) = Pl.tokens l) := by
            have := hr3.out
            have e0 : Pl.cut D f k = [] := List.eq_nil_of_length_eq_zero (by omega)
            unfold Pl.emit at this; rw [if_pos e0] at this; exact this
          clear hr3
          go_wp2
          go_roundw
          case rel => exact ⟨k + 1, k + 1, acc, by omega, by omega, by omega, by go_num, by go_num, hown, hbel, hr4.out⟩
          case measure => simp [intOf]; omega
      · have hr2 : Hid (acc ++ Pl.scanB (D.drop (k + 1)) (Pl.cut D f (k + 1)) = Pl.tokens l) := by
          have := hr.out; rw [scanB_more D _ k hlt h32, ← cut_more D f k hfk hlt] at this; exact this
        have n1 : ((D[k].toNat : Int) == 32) = false := by
          rw [beq_eq_false_iff_ne]; intro e; exact h32 (UInt8.toNat_inj.1 (by have e2 : (32 : UInt8).toNat = 32 := rfl; omega))
        clear hr h32
        generalize D[k] = c at *
        go_wp2
        go_roundw
        case rel => exact ⟨k + 1, f, acc, by omega, by omega, by omega, by go_num, rfl, hown, hbel, hr2.out⟩
        case measure => simp [intOf]; omega
    · have hsc : Hid (acc = Pl.tokens l) := by have := hr.out; rw [List.drop_eq_nil_of_le (by omega)] at this; simpa [Pl.scanB, Hid] using this
      clear hr
      go_wp2
      go_ret
      rw [hsc.out] at hown
      exact ⟨_, rfl, hown, hbel⟩
end Go.Proofs.YtbbdkgfdeghdfaaGreat
