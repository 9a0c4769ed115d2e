/- Joined: Eq1 Print1. -/
import Derived.Test.YtfaljekgpnbmiaaGreatL14
/-
  The reference's names and tokens against the program's, as plain data.
-/
namespace Go.Proofs.YtfaljekgpnbmiaaGreat.Pl

theorem kwText_eq : kwText = pad kws := by decide
theorem holds_kw (t : List UInt8) (h : NoSp t) : holdsW kwText t = isKw t := by
  have := holds_pad kws t h (by intro w hw; revert w; unfold NoSp; decide)
  unfold holdsW
  rw [kwText_eq, show ([32] ++ t ++ [32] : List UInt8) = 32 :: (t ++ [32]) from rfl, this]
  unfold isKw
  rw [Bool.eq_iff_iff]; simp
theorem namedFrom_pos (r : List UInt8) : ∀ k, namedFrom (k + 1) r = r.all okc := by
  induction r with
  | nil => intro k; rfl
  | cons c r ih =>
    intro k
    rw [namedFrom, ih, List.all_cons]
    unfold okAt okc
    simp
theorem noSp_okc {c : UInt8} (h : okc c = true) : c ≠ 32 := by rintro rfl; exact absurd h (by decide)
theorem rName_eq (t : List UInt8) : rName t = isName t := by
  cases t with
  | nil => rfl
  | cons c r =>
    have e1 : namedFrom 0 (c :: r) = (isLet c && r.all okc) := by
      rw [namedFrom, namedFrom_pos]; unfold okAt; simp
    unfold rName
    rw [e1, isName_cons]
    have e2 : decide ((c :: r).length ≤ 8) = decide (r.length ≤ 7) := by rw [List.length_cons]; congr 1; simp
    rw [e2]
    cases hb : (isLet c && r.all okc) with
    | false =>
      rw [Bool.and_false, Bool.false_and, Bool.and_assoc, Bool.and_assoc, ← Bool.and_assoc (isLet c), hb]; simp
    | true =>
      have hc : isLet c = true ∧ r.all okc = true := by simpa using hb
      have hns : NoSp (c :: r) := by
        intro x hx
        rcases List.mem_cons.1 hx with rfl | hx
        · exact noSp_okc (by unfold okc; rw [hc.1]; rfl)
        · exact noSp_okc (List.all_eq_true.1 hc.2 x hx)
      rw [holds_kw _ hns, hc.1, hc.2]
      simp

/-- What the program keeps of a name's kind. -/
def KR (k : Nat) (p : Int) : Prop := ((k = 105 ∨ k = 118) ∧ p = 0) ∨ (k = 102 ∧ p = 1) ∨ (k = 111 ∧ p = 2)
def RelL : List DeclM → List (List UInt8 × Int × Int) → Prop
  | [], [] => True
  | d :: ds, e :: es => d.name = e.1 ∧ KR d.kind e.2.1 ∧ RelL ds es
  | _, _ => False
theorem RelL.len {ds : List DeclM} {es : List (List UInt8 × Int × Int)} (h : RelL ds es) : ds.length = es.length := by
  induction ds generalizing es with
  | nil => cases es with
    | nil => rfl
    | cons e es => exact absurd h id
  | cons d ds ih => cases es with
    | nil => exact absurd h id
    | cons e es => simp [ih h.2.2]
theorem RelL.snoc {ds : List DeclM} {es : List (List UInt8 × Int × Int)} (h : RelL ds es) (d : DeclM) (e : List UInt8 × Int × Int) (h1 : d.name = e.1) (h2 : KR d.kind e.2.1) : RelL (ds ++ [d]) (es ++ [e]) := by
  induction ds generalizing es with
  | nil => cases es with
    | nil => exact ⟨h1, h2, trivial⟩
    | cons e es => exact absurd h id
  | cons d' ds ih => cases es with
    | nil => exact absurd h id
    | cons e' es => exact ⟨h.1, h.2.1, ih h.2.2⟩
theorem RelL.find {ds : List DeclM} {es : List (List UInt8 × Int × Int)} (h : RelL ds es) (t : List UInt8) : ∀ i : Int, findFrom ds t i = if findEnt es t < es.length then i + findEnt es t else -1 := by
  induction ds generalizing es with
  | nil => cases es with
    | nil => intro i; rfl
    | cons e es => exact absurd h id
  | cons d ds ih => cases es with
    | nil => exact absurd h id
    | cons e es =>
      intro i
      rw [findFrom, findEnt, h.1]
      by_cases hn : e.1 = t
      · rw [if_pos hn, if_pos hn]; simp
      · rw [if_neg hn, if_neg hn, ih h.2.2]
        by_cases hl : findEnt es t < es.length
        · rw [if_pos hl, if_pos (by simp; omega)]; omega
        · rw [if_neg hl, if_neg (by simp; omega)]
theorem RelL.kindAt {ds : List DeclM} {es : List (List UInt8 × Int × Int)} (h : RelL ds es) (k : Nat) (hk : k < es.length) : ∃ hd : k < ds.length, KR ds[k].kind es[k].2.1 ∧ ds[k].name = es[k].1 := by
  induction ds generalizing es k with
  | nil => cases es with
    | nil => simp at hk
    | cons e es => exact absurd h id
  | cons d ds ih => cases es with
    | nil => exact absurd h id
    | cons e es => cases k with
      | zero => exact ⟨by simp, h.2.1, h.1⟩
      | succ k =>
        obtain ⟨h1, h2, h3⟩ := ih h.2.2 k (by simpa using hk)
        exact ⟨by simpa using h1, h2, h3⟩
theorem RelL.fresh {ds : List DeclM} {es : List (List UInt8 × Int × Int)} (h : RelL ds es) (t : List UInt8) : Pl.fresh ds t = (isName t && decide (findEnt es t = es.length)) := by
  unfold Pl.fresh
  rw [rName_eq]
  congr 1
  have hf : findD ds t = _ := h.find t 0
  rw [hf]
  have hle := findEnt_le es t
  by_cases hl : findEnt es t < es.length
  · rw [if_pos hl, decide_eq_false (by omega), decide_eq_false (by omega)]
  · rw [if_neg hl, decide_eq_true (by omega), decide_eq_true (by omega)]
/-- The node of a name of that kind. -/
def knownOf (es : List (List UInt8 × Int × Int)) (t : List UInt8) (kd : Int) : Option Int :=
  match es[findEnt es t]? with
  | none => none
  | some e => if e.2.1 = kd then some e.2.2 else none
theorem known_eq (r : RdM) (kd : Int) : r.known kd = knownOf r.ents r.peek kd := rfl
theorem RelL.isOf {ds : List DeclM} {es : List (List UInt8 × Int × Int)} (h : RelL ds es) (t : List UInt8) (a b : Nat) (kd : Int) (hab : ∀ k p, KR k p → ((k = a ∨ k = b) ↔ p = kd)) : Pl.isOf ds t a b = (knownOf es t kd).isSome := by
  unfold Pl.isOf Pl.kindAt knownOf
  have hf : findD ds t = _ := h.find t 0
  rw [hf]
  by_cases hl : findEnt es t < es.length
  · obtain ⟨hd, hk, _⟩ := h.kindAt _ hl
    rw [if_pos hl, if_neg (by omega), show ((0 : Int) + (findEnt es t : Int)).toNat = findEnt es t by omega, List.getElem?_eq_getElem hd, Option.map_some, List.getElem?_eq_getElem hl]
    simp only
    have := hab _ _ hk
    by_cases hkd : (es[findEnt es t]).2.1 = kd
    · rw [if_pos hkd]
      have := this.2 hkd
      rcases this with h | h <;> simp [h]
    · rw [if_neg hkd]
      have h2 : ¬ ((ds[findEnt es t]).kind = a ∨ (ds[findEnt es t]).kind = b) := fun hc => hkd (this.1 hc)
      simp only [not_or] at h2
      simp [h2.1, h2.2]
  · rw [if_neg hl, if_pos (by omega), List.getElem?_eq_none (by have := findEnt_le es t; omega)]
    rfl
theorem RelL.isVal {ds : List DeclM} {es : List (List UInt8 × Int × Int)} (h : RelL ds es) (t : List UInt8) : Pl.isOf ds t 105 118 = (knownOf es t 0).isSome :=
  h.isOf t 105 118 0 (by intro k p hk; rcases hk with ⟨h1, h2⟩ | ⟨h1, h2⟩ | ⟨h1, h2⟩ <;> omega)
theorem RelL.isFlag {ds : List DeclM} {es : List (List UInt8 × Int × Int)} (h : RelL ds es) (t : List UInt8) : Pl.isOf ds t 102 102 = (knownOf es t 1).isSome :=
  h.isOf t 102 102 1 (by intro k p hk; rcases hk with ⟨h1, h2⟩ | ⟨h1, h2⟩ | ⟨h1, h2⟩ <;> omega)
theorem peek_atR (r : RdM) : r.peek = atR r.toks r.pos := by
  unfold RdM.peek atR
  by_cases h : r.toks.length ≤ r.pos ∨ 600 ≤ r.pos
  · rw [if_pos h, if_neg (by omega)]
  · rw [if_neg h, if_pos (by omega)]
theorem RelL.newName {ds : List DeclM} {r : RdM} (h : RelL ds r.ents) : r.newName = if Pl.fresh ds (atR r.toks r.pos) = true then some (atR r.toks r.pos) else none := by
  rw [h.fresh, ← peek_atR]
  unfold RdM.newName
  by_cases hc : isName r.peek = true ∧ findEnt r.ents r.peek = r.ents.length
  · rw [if_pos hc, if_pos (by simp [hc.1, hc.2])]
  · rw [if_neg hc, if_neg (by simpa using hc)]
theorem isName_ne {t : List UInt8} (h : isName t = true) : t ≠ [] := by rintro rfl; exact absurd h (by decide)
theorem RelL.fresh_ne {ds : List DeclM} {es : List (List UInt8 × Int × Int)} (h : RelL ds es) {t : List UInt8} (hf : Pl.fresh ds t = true) : t ≠ [] := by
  rw [h.fresh] at hf
  exact isName_ne (by simp at hf; exact hf.1)

end Go.Proofs.YtfaljekgpnbmiaaGreat.Pl

/-
  Contracts of token.gap and token.Lines: what is printed.
-/
namespace Go.Proofs.YtfaljekgpnbmiaaGreat
open Go.RowKit

def byteV (c : UInt8) : Value := .int .u8 c.toNat
def BytesOwn (B : Nat) (w : World) (v : Value) (l : List UInt8) : Prop := w.ownsRow B 5 1 v l.length (l.map byteV)
theorem Tryz.infoByte : (Tryz.prog.info? 5).map (fun i => (i.zero, i.size, i.bytes)) = some (some (.int .u8 0), 1, 1) := by kernel_rfl

set_option maxHeartbeats 1000000 in
theorem gap_any (t : List UInt8) (w : World) :
    Calls Tryz.prog 149 #[.string ⟨t.toArray⟩] w fun e w' => e = .returned (byteV (Pl.gapOf t)) ∧ w' = w := by
  by_cases h : t = Pl.kIn ∨ t = Pl.kLet ∨ t = Pl.kSet ∨ t = Pl.kOut
  · have hx : Hid (byteV (Pl.gapOf t) = .int .u8 10) := by unfold Pl.gapOf Hid; rw [if_pos h]; rfl
    simp only [Pl.kIn, Pl.kLet, Pl.kSet, Pl.kOut] at h
    rw [hx.out]
    clear hx
    rcases h with rfl | rfl | rfl | rfl
    all_goals
      go_enter Tryz.func149, Tryz.ntmps149
      go_wp2
      go_ret
      exact ⟨rfl, rfl⟩
  · have hx : Hid (byteV (Pl.gapOf t) = .int .u8 32) := by unfold Pl.gapOf Hid; rw [if_neg h]; rfl
    have h1 : (t == Pl.kIn) = false := by rw [beq_eq_false_iff_ne]; intro e; exact h (.inl e)
    have h2 : (t == Pl.kLet) = false := by rw [beq_eq_false_iff_ne]; intro e; exact h (.inr (.inl e))
    have h3 : (t == Pl.kSet) = false := by rw [beq_eq_false_iff_ne]; intro e; exact h (.inr (.inr (.inl e)))
    have h4 : (t == Pl.kOut) = false := by rw [beq_eq_false_iff_ne]; intro e; exact h (.inr (.inr (.inr e)))
    simp only [Pl.kIn, Pl.kLet, Pl.kSet, Pl.kOut] at h1 h2 h3 h4
    rw [hx.out]
    clear hx h
    go_enter Tryz.func149, Tryz.ntmps149
    go_wp2
    go_ret
    exact ⟨rfl, rfl⟩

theorem strCells_mk (l : List UInt8) : Go.Lib.strCells ⟨l.toArray⟩ = l.map byteV := by simp [Go.Lib.strCells, byteV]
theorem byte_news {w w0 : World} (g : Nat) (c : UInt8) (h : w0.heap[g]? = some (.cells #[byteV c] 5 (0, 0))) (hw : w.heap = w0.heap) : ∀ j u, [byteV c][j]? = some u → w.cell? ((⟨g, 0, none⟩ : Addr).add j) = some u := news_far g #[byteV c] 5 h hw
theorem byte_cell (c : UInt8) : ∀ u ∈ [byteV c], u.oneCell' = true := by intro u hu; simp at hu; subst hu; rfl

theorem bytes_cells {B : Nat} {w : World} {g n c : Nat} {l : List UInt8} (h : BytesOwn B w (.slice (some ⟨g, 0, none⟩) n c) l) (j : Nat) (hj : j < l.length) : w.cell? ((⟨g, 0, none⟩ : Addr).add j) = some (.int .u8 (l[j]).toNat) := by
  have hc := World.ownsRow.cells h (g := g) rfl j (byteV l[j]) (by rw [List.getElem?_map, List.getElem?_eq_getElem hj]; rfl)
  exact hc
theorem lt_of_cell {w : World} {a : Addr} {v : Value} (h : w.cell? a = some v) : a.block < w.heap.size := by
  unfold World.cell? at h
  split at h
  · rename_i hx; exact lt_of_block hx
  · cases h
theorem cell_low {w w' : World} {a : Addr} {v : Value} (hb : Below w.heap.size w w') (hlt : a.block < w.heap.size) (h : w.cell? a = some v) : w'.cell? a = some v := by
  rw [← h]
  unfold World.cell?
  rw [hb.block a.block hlt]

set_option maxRecDepth 100000 in
set_option maxHeartbeats 2000000 in
theorem Lines_any (toks : List (List UInt8)) (B : Nat) (v : Value) (w : World) (h : StrsOwn B w v toks) (hg : ∀ t ∈ toks, t ≠ []) (hne : toks ≠ []) (hw : Pl.wide toks ≤ 10000) :
    Calls Tryz.prog 111 #[v] w fun e w' => e = .returned (strV (Pl.linesOf toks)) ∧ Below w.heap.size w w' := by
  obtain ⟨i0, hi, hz0, hz1, hz2⟩ := info_parts Tryz.infoByte
  obtain ⟨ad, cp, rfl, hcell⟩ := strs_shape h
  have hlen : toks.length ≤ 10000 := by
    have : toks.length ≤ Pl.wide toks := by
      unfold Pl.wide
      clear hcell h hg hne hw
      induction toks with
      | nil => simp
      | cons t r ih => simp; omega
    omega
  have HC := hide hcell
  have HG := hide hg
  have HN := hide hne
  clear h hcell hg hne
  go_enter Tryz.func111, Tryz.ntmps111
  go_wp2
  go_loopw [3, 4] (fun x i wr => ∃ (k : Nat) (ax : Option Addr) (nx cx : Nat), k ≤ toks.length ∧ i = .int .i64 k ∧ x = .slice ax nx cx ∧ Hid (BytesOwn w.heap.size wr (.slice ax nx cx) (Pl.linesHead (toks.take k)) ∧ Below w.heap.size w wr)) (fun _ i _ => toks.length - (intOf i).toNat)
  case atStart => exact ⟨0, none, 0, 0, by omega, rfl, rfl, World.ownsRow_nil _ _ _ _, Below.refl _ _⟩
  case round =>
    obtain ⟨k, ax, nx, cx, hk, rfl, rfl, hh⟩ := hrel
    by_cases hlt : k < toks.length
    · obtain ⟨g0, rfl, hc0⟩ := unhide HC k hlt
      have hc := cell_low (unhide hh).2 (lt_of_cell hc0) hc0
      have ht0 : toks.getD k [] ≠ [] := by rw [List.getD_eq_getElem?_getD, List.getElem?_eq_getElem hlt]; exact unhide HG _ (List.getElem_mem _)
      have htk : toks.take (k + 1) = toks.take k ++ [toks.getD k []] := by rw [List.take_add_one, List.getElem?_eq_getElem hlt, List.getD_eq_getElem?_getD, List.getElem?_eq_getElem hlt]; rfl
      have hwd := Pl.linesHead_len (toks.take (k + 1))
      have hwd2 := Pl.wide_take toks (k + 1)
      have hwd3 := Pl.linesHead_len (toks.take k)
      have hwd4 := Pl.wide_take toks k
      have hlz : (toks.take k).length = k := by rw [List.length_take]; omega
      generalize toks.getD k [] = t at *
      have HC0 := hide hc0
      unfold strV at hc
      clear hc0
      have hs1 := (unhide hh).2.size
      by_cases h0 : k = 0
      · subst h0
        have e0 : toks.take 0 = [] := rfl
        rw [e0] at hh htk
        have e1 : Pl.linesHead (toks.take (0 + 1)) = t := by rw [htk]; simp [Pl.linesHead, Pl.linesFrom]
        have hown : BytesOwn w.heap.size wr (.slice ax nx cx) [] := (unhide hh).1
        have HB := hide (unhide hh).2
        rw [e1] at hwd
        have HT := hide e1
        clear e0 hh htk e1 hlz
        go_wp2_with (at_builtin; refine Go.Lib.wpList_append_own_string _ rfl _ _ 197 9 rfl w.heap.size 5 i0 Tryz.underlying197 Tryz.underlying9 hi hz0 hz1 hz2 _ _ _ rfl hown ⟨t.toArray⟩ rfl ?c1 ?c2 hs1 ?_)
        case c1 => simp only [ByteArray.size, List.size_toArray, List.length_nil]; unfold maxLen; omega
        case c2 => simp only [ByteArray.size, List.size_toArray, List.length_nil]; omega
        · intro v' w1 hown' hgrow hnil
          have HO : Hid (BytesOwn w.heap.size w1 v' t ∧ Below w.heap.size w w1) := by
            refine ⟨?_, (unhide HB).grown hgrow hs1 (own_base hown)⟩
            unfold BytesOwn
            rw [strCells_mk] at hown'
            simpa [ByteArray.size] using hown'
          obtain ⟨ad', cp', hv'⟩ := slice_shape (unhide HO).1
          subst hv'
          clear hown' hgrow hown HB hc
          go_wp2
          go_roundw
          case rel => exact ⟨0 + 1, _, _, _, by omega, by go_num, rfl, by rw [unhide HT]; exact HO⟩
          case measure => simp [intOf]; omega
      · have hk0 : 0 < k := by omega
        have e1 : Pl.linesHead (toks.take (k + 1)) = Pl.linesHead (toks.take k) ++ [Pl.gapOf t] ++ t := by
          rw [htk, Pl.linesHead_snoc _ _ (by intro e; rw [e] at hlz; simp at hlz; omega)]
        rw [e1] at hwd
        have HT := hide e1
        have hown : BytesOwn w.heap.size wr (.slice ax nx cx) (Pl.linesHead (toks.take k)) := (unhide hh).1
        have HB := hide (unhide hh).2
        clear hh htk e1 hlz h0
        generalize Pl.linesHead (toks.take k) = L at *
        have hG := hide (fun w => gap_any t w)
        generalize Pl.gapOf t = gp at *
        unfold byteV at hG
        simp only [List.length_append, List.length_singleton] at hwd
        go_wp2_with fail
        refine (unhide hG _).mono ?_
        rintro e w' ⟨rfl, hw'⟩
        rw [hw']
        clear hw' w' hG
        have hal : BytesOwn w.heap.size (wr.alloc (.cells #[.int .u8 gp.toNat] 5)) (.slice ax nx cx) L := World.ownsRow.alloc hown _
        go_wp2_with (at_builtin; refine wpList_append_lies _ rfl _ _ 197 rfl w.heap.size 5 i0 (.int .u8 0) 1 1 Tryz.underlying197 hi hz0 hz1 hz2 rfl (by decide) _ _ _ rfl hal ⟨_, 0, none⟩ 1 1 [byteV gp] rfl rfl ?d1 (byte_cell gp) (by decide) ?d2 ?d3 ?d4 _ rfl ?_)
        case d1 => exact byte_news _ gp (heap_alloc_new wr _) rfl
        case d2 => unfold maxLen; omega
        case d3 => omega
        case d4 => simp; omega
        · intro g1 cp1 w1 hown' hgrow _ _
          have HO : Hid (Below w.heap.size w w1) := ((unhide HB).alloc hs1 _).grown hgrow (by simp; omega) (own_base hal)
          have hown1 : BytesOwn w.heap.size w1 (.slice (some ⟨g1, 0, none⟩) (L.length + 1) cp1) (L ++ [gp]) := by
            unfold BytesOwn
            simpa using hown'
          have hc1 := cell_low (unhide HO) (lt_of_cell (unhide HC0)) (unhide HC0)
          unfold strV at hc1
          have hs2 := (unhide HO).size
          clear hown' hgrow hown hal HB hc
          go_wp2_with (at_builtin; refine Go.Lib.wpList_append_own_string _ rfl _ _ 197 9 rfl w.heap.size 5 i0 Tryz.underlying197 Tryz.underlying9 hi hz0 hz1 hz2 _ _ _ rfl hown1 ⟨t.toArray⟩ rfl ?e1 ?e2 hs2 ?_)
          case e1 => simp only [ByteArray.size, List.size_toArray, List.length_append, List.length_singleton]; unfold maxLen; omega
          case e2 => simp only [ByteArray.size, List.size_toArray, List.length_append, List.length_singleton]; omega
          · intro v2 w2 hown2 hgrow2 _
            have HO2 : Hid (BytesOwn w.heap.size w2 v2 (L ++ [gp] ++ t) ∧ Below w.heap.size w w2) := by
              refine ⟨?_, (unhide HO).grown hgrow2 hs2 (own_base hown1)⟩
              unfold BytesOwn
              rw [strCells_mk] at hown2
              have e3 : (L ++ [gp] ++ t).length = L.length + 1 + t.length := by simp; omega
              rw [e3]
              simpa [ByteArray.size] using hown2
            obtain ⟨ad', cp', hv'⟩ := slice_shape (unhide HO2).1
            subst hv'
            clear hown2 hgrow2 hown1 HO hc1
            go_wp2
            go_roundw
            case rel => exact ⟨k + 1, _, _, _, by omega, by go_num, rfl, by rw [unhide HT]; exact HO2⟩
            case measure => simp [intOf]; omega
    · have hkk : k = toks.length := by omega
      subst hkk
      have h0 : 0 < toks.length := List.length_pos_iff.mpr (unhide HN)
      have e1 : toks.take toks.length = toks := List.take_length
      rw [e1] at hh
      have hwd3 := Pl.linesHead_len toks
      have HL := hide (Pl.linesOf_eq toks (unhide HN))
      have hown : BytesOwn w.heap.size wr (.slice ax nx cx) (Pl.linesHead toks) := (unhide hh).1
      have HB := hide (unhide hh).2
      have hs1 := (unhide hh).2.size
      clear hh e1
      generalize Pl.linesHead toks = L at *
      have hal : BytesOwn w.heap.size (wr.alloc (.cells #[.int .u8 10] 5)) (.slice ax nx cx) L := World.ownsRow.alloc hown _
      go_wp2_with (at_builtin; refine wpList_append_lies _ rfl _ _ 197 rfl w.heap.size 5 i0 (.int .u8 0) 1 1 Tryz.underlying197 hi hz0 hz1 hz2 rfl (by decide) _ _ _ rfl hal ⟨_, 0, none⟩ 1 1 [byteV 10] rfl rfl ?d1 (byte_cell 10) (by decide) ?d2 ?d3 ?d4 _ rfl ?_)
      case d1 => exact byte_news _ 10 (heap_alloc_new wr _) rfl
      case d2 => unfold maxLen; omega
      case d3 => omega
      case d4 => simp; omega
      · intro g1 cp1 w1 hown' hgrow _ _
        have HO : Hid (Below w.heap.size w w1) := ((unhide HB).alloc hs1 _).grown hgrow (by simp; omega) (own_base hal)
        have hown1 : BytesOwn w.heap.size w1 (.slice (some ⟨g1, 0, none⟩) (L.length + 1) cp1) (L ++ [10]) := by
          unfold BytesOwn
          simpa using hown'
        have hcv : (convert 197 9 (.slice (some ⟨g1, 0, none⟩) (L.length + 1) cp1)).run Tryz.prog w1 = .ok (.string ⟨(L ++ [10]).toArray⟩) w1 := by
          have := run_convert_bytes_back (P := Tryz.prog) w1 197 9 5 ⟨g1, 0, none⟩ cp1 (L ++ [10]) Tryz.underlying197 Tryz.underlying5 Tryz.underlying9 (fun j hj => by
            have h3 := (bytes_cells hown1 j hj)
            exact h3)
          simpa using this
        clear hown' hgrow hown hal HB hown1
        go_wp2
        go_ret
        exact ⟨by rw [unhide HL]; rfl, unhide HO⟩
end Go.Proofs.YtfaljekgpnbmiaaGreat
