/- Joined: Split PlainName PlainRd. -/
import Derived.Test.YtfaljekgpnbmiaaGreatH01
/-
  The contract of token.Split: the tokens of the text, in a list of the call's own.
-/
namespace Go.Proofs.YtfaljekgpnbmiaaGreat
open Go.RowKit

def strV (t : List UInt8) : Value := .string ⟨t.toArray⟩
def StrsOwn (B : Nat) (w : World) (v : Value) (l : List (List UInt8)) : Prop := w.ownsRow B 9 1 v l.length (l.map strV)
theorem Tryz.infoStr : (Tryz.prog.info? 9).map (fun i => (i.zero, i.size, i.bytes)) = some (some (.string ⟨#[]⟩), 1, 16) := by kernel_rfl

theorem StrsOwn.grown {B : Nat} {w1 : World} {v' : Value} {l : List (List UInt8)} {t : List UInt8} (h : w1.ownsRow B 9 1 v' (l.length + 1) (l.map strV ++ [strV t])) : StrsOwn B w1 v' (l ++ [t]) := by
  unfold StrsOwn; simpa using h
theorem one_news {w : World} (x : Value) : ∀ j u, [x][j]? = some u → (w.alloc (.cells #[x] 9)).cell? ((⟨w.heap.size, 0, none⟩ : Addr).add j) = some u := by
  intro j u hj
  match j, hj with
  | 0, hj => simp at hj; subst hj; simp [Addr.add]
theorem one_cell (t : List UInt8) : ∀ u ∈ [strV t], u.oneCell' = true := by intro u hu; simp at hu; subst hu; rfl
theorem own_base {w : World} {B : Nat} {e : TypeId} {size : Nat} {v : Value} {n : Nat} {xs : List Value} (h : w.ownsRow B e size v n xs) : ∀ k, v.ownBlock = some k → B ≤ k := fun k hk => (h.lt k hk).1

set_option maxHeartbeats 1000000 in
theorem Split_any (l : List UInt8) (w : World) (hl : l.length ≤ 6000) :
    Calls Tryz.prog 110 #[.string ⟨l.toArray⟩] w fun e w' => ∃ v, e = .returned v ∧ StrsOwn w.heap.size w' v (Pl.tokens l) ∧ Below w.heap.size w w' := by
  obtain ⟨i0, hi, hz0, hz1, hz2⟩ := info_parts Tryz.infoStr
  go_enter Tryz.func110, Tryz.ntmps110
  go_wp2
  go_loopw [3, 4] (fun v i wr => ∃ (k : Nat) (acc : List (List UInt8)), k ≤ l.length ∧ acc.length ≤ k ∧ i = .int .i64 k ∧ StrsOwn w.heap.size wr v acc ∧ Below w.heap.size w wr ∧ Hid (acc ++ Pl.scan (l.drop k) [] false = Pl.tokens l)) (fun _ i _ => l.length - (intOf i).toNat)
  case atStart => exact ⟨0, [], by omega, by simp, rfl, World.ownsRow_nil _ _ _ _, Below.refl _ _, rfl⟩
  case round =>
    obtain ⟨k, acc, hk, hacc, rfl, hown, hbel, hr⟩ := hrel
    by_cases hlt : k < l.length
    · have hb := bget l k hlt
      have hge := Pl.runEnd_ge l k
      have hle := Pl.runEnd_le l k hk
      by_cases hrun : k < Pl.runEnd l k
      · have hx : (ByteArray.mk l.toArray).extract k (Pl.runEnd l k) = ⟨((l.drop k).take (Pl.runEnd l k - k)).toArray⟩ := bext _ _ _
        have hsc : Hid ((acc ++ [(l.drop k).take (Pl.runEnd l k - k)]) ++ Pl.scan (l.drop (Pl.runEnd l k)) [] false = Pl.tokens l) := by
          have := hr.out; rw [Pl.scan_run l k hrun] at this; simpa [Hid] using this
        generalize hep : Pl.runEnd l k = ep at *
        generalize hte : (l.drop k).take (ep - k) = tk at *
        have hep' : Hid (Pl.runEnd l k = ep) := hep
        clear hep hte hr
        go_wp2_with (first
          | (go_at_call 147; refine (runEnd_any l k _ (by unfold maxLen; omega) hk).mono ?_; rintro e w' ⟨rfl, rfl⟩; rw [hep'.out])
          | (at_builtin; refine wpList_append_own _ rfl _ _ 102 rfl w.heap.size 9 i0 (.string ⟨#[]⟩) 1 16 Tryz.underlying102 hi hz0 hz1 hz2 rfl (by decide) _ _ _ rfl (World.ownsRow.alloc hown _) ⟨_, 0, none⟩ 1 1 [strV tk] rfl rfl ?c1 (one_cell _) ?c3 ?c4 ?c5 ?_))
        case c1 => exact one_news (strV tk)
        case c3 => unfold maxLen; omega
        case c4 => omega
        case c5 => have := hbel.size; simp; omega
        · intro v' w1 hown' hgrow _
          have hA := StrsOwn.grown hown'
          have hB := (hbel.alloc hbel.size (Obj.cells #[Value.string ⟨tk.toArray⟩] 9)).grown hgrow (by have := hbel.size; simp; omega) (own_base hown)
          clear hown' hgrow hown hbel hx hb
          go_wp2
          go_roundw
          case rel => exact ⟨ep, acc ++ [tk], hle, by simp; omega, rfl, hA, hB, hsc.out⟩
          case measure => simp [intOf]; omega
      · have htok := Pl.isTok_of_run l k hlt hrun
        have hre : Pl.runEnd l k = k := by omega
        have hre' : Hid (Pl.runEnd l k = k) := hre
        clear hre hge hle hrun
        by_cases h35 : l[k].toNat = 35
        · have hbo : ((l[k].toNat : Int) == 35) = true := by rw [beq_iff_eq]; omega
          have hsc : Hid (acc ++ Pl.scan (l.drop (Pl.remEnd l k)) [] false = Pl.tokens l) := by have := hr.out; rw [Pl.scan_remark l k hlt h35] at this; exact this
          have hgt := Pl.remEnd_gt l k hlt h35
          have hle := Pl.remEnd_le l k hk
          clear hr htok h35
          generalize hep : Pl.remEnd l k = ep at *
          have hep' : Hid (Pl.remEnd l k = ep) := hep
          clear hep
          go_wp2_with (first
            | (go_at_call 147; refine (runEnd_any l k _ (by unfold maxLen; omega) hk).mono ?_; rintro e w' ⟨rfl, rfl⟩; rw [hre'.out])
            | (go_at_call 148; refine (remarkEnd_any l k _ (by unfold maxLen; omega) hk).mono ?_; rintro e w' ⟨rfl, rfl⟩; rw [hep'.out]))
          go_roundw
          case rel => exact ⟨ep, acc, hle, by omega, rfl, hown, hbel, hsc.out⟩
          case measure => simp [intOf]; omega
        · have hbo : ((l[k].toNat : Int) == 35) = false := by rw [beq_eq_false_iff_ne]; omega
          have hsc : Hid (acc ++ Pl.scan (l.drop (k + 1)) [] false = Pl.tokens l) := by have := hr.out; rw [Pl.scan_blank l k hlt htok h35] at this; exact this
          clear hr htok h35
          go_wp2_with (go_at_call 147; refine (runEnd_any l k _ (by unfold maxLen; omega) hk).mono ?_; rintro e w' ⟨rfl, rfl⟩; rw [hre'.out])
          go_roundw
          case rel => exact ⟨k + 1, acc, by omega, by omega, by go_num, hown, hbel, hsc.out⟩
          case measure => simp [intOf]; omega
    · have hsc : Hid (acc = Pl.tokens l) := by have := hr.out; rw [List.drop_eq_nil_of_le (by omega)] at this; simpa [Pl.scan, Pl.emit, Hid] using this
      clear hr
      go_wp2
      go_ret
      rw [hsc.out] at hown
      exact ⟨_, rfl, hown, hbel⟩
end Go.Proofs.YtfaljekgpnbmiaaGreat

/-
  Names and keywords, as plain functions on lists of bytes.
-/
namespace Go.Proofs.YtfaljekgpnbmiaaGreat.Pl

def kIn : List UInt8 := [105, 110]
def kLet : List UInt8 := [108, 101, 116]
def kSet : List UInt8 := [115, 101, 116]
def kOut : List UInt8 := [111, 117, 116]
def kAdd : List UInt8 := [97, 100, 100]
def kSub : List UInt8 := [115, 117, 98]
def kMul : List UInt8 := [109, 117, 108]
def kMin : List UInt8 := [109, 105, 110]
def kMax : List UInt8 := [109, 97, 120]
def kIf : List UInt8 := [105, 102]
def kDiv : List UInt8 := [100, 105, 118]
def kTab : List UInt8 := [116, 97, 98]
def kLt : List UInt8 := [108, 116]
def kLe : List UInt8 := [108, 101]
def kEq : List UInt8 := [101, 113]
def kAnd : List UInt8 := [97, 110, 100]
def kOr : List UInt8 := [111, 114]
def kNot : List UInt8 := [110, 111, 116]
def kDown : List UInt8 := [100, 111, 119, 110]
def kUp : List UInt8 := [117, 112]
def kZero : List UInt8 := [122, 101, 114, 111]
def kNear : List UInt8 := [110, 101, 97, 114]
def kFlr : List UInt8 := [102, 108, 114]
def kSel : List UInt8 := [115, 101, 108]
def kws : List (List UInt8) := [kIn, kLet, kSet, kOut, kAdd, kSub, kMul, kMin, kMax, kIf, kDiv, kTab, kLt, kLe, kEq, kAnd, kOr, kNot, kDown, kUp, kZero, kNear, kFlr, kSel]
def isKw (t : List UInt8) : Bool := kws.contains t
def okc (c : UInt8) : Bool := isLet c || isDig c
def isName (t : List UInt8) : Bool :=
  match t with
  | [] => false
  | c :: r => decide (r.length ≤ 7) && isLet c && r.all okc && !isKw t

theorem isName_cons (c : UInt8) (r : List UInt8) : isName (c :: r) = (decide (r.length ≤ 7) && isLet c && r.all okc && !isKw (c :: r)) := rfl
theorem all_step (t : List UInt8) (k : Nat) (h : k < t.length) (hc : okc t[k] = true) : (t.drop (k + 1)).all okc = (t.drop k).all okc := by
  rw [List.drop_eq_getElem_cons h, List.all_cons, hc, Bool.true_and]
theorem all_no (t : List UInt8) (k : Nat) (h : k < t.length) (hc : okc t[k] = false) : (t.drop k).all okc = false := by
  rw [List.drop_eq_getElem_cons h, List.all_cons, hc, Bool.false_and]
theorem all_end (t : List UInt8) (k : Nat) (h : t.length ≤ k) : (t.drop k).all okc = true := by
  rw [List.drop_eq_nil_of_le h]; rfl
theorem okc_no {c : UInt8} (h : okc c = false) : isLet c = false ∧ isDig c = false := by simpa [okc] using h
theorem okc_yes {c : UInt8} (h : okc c = true) : isLet c = true ∨ isLet c = false ∧ isDig c = true := by
  unfold okc at h; cases hl : isLet c <;> simp_all

end Go.Proofs.YtfaljekgpnbmiaaGreat.Pl

/-
  The reader and the plan of the program, as plain data, and what each step of the reader does to them.
-/
namespace Go.Proofs.YtfaljekgpnbmiaaGreat.Pl

structure NodeM where
  op : Int
  a : Int
  b : Int
  c : Int
  k : Int
  bands : List (Int × Int)
structure RdM where
  ins : List (Int × Int)
  nodes : List NodeM
  outs : List Int
  toks : List (List UInt8)
  pos : Nat
  ents : List (List UInt8 × Int × Int)

def RdM.peek (r : RdM) : List UInt8 := if r.toks.length ≤ r.pos ∨ 600 ≤ r.pos then [] else r.toks.getD r.pos []
def RdM.skip (r : RdM) : RdM := if r.peek = [] then r else { r with pos := r.pos + 1 }
def RdM.addEnt (r : RdM) (t : List UInt8) (k n : Int) : RdM := { r with ents := r.ents ++ [(t, k, n)] }
def RdM.addNode (r : RdM) (n : NodeM) : RdM := { r with nodes := r.nodes ++ [n] }
def RdM.addIn (r : RdM) (p : Int × Int) : RdM := { r with ins := r.ins ++ [p] }
def RdM.addOut (r : RdM) (n : Int) : RdM := { r with outs := r.outs ++ [n] }
def findEnt : List (List UInt8 × Int × Int) → List UInt8 → Nat
  | [], _ => 0
  | e :: r, t => if e.1 = t then 0 else findEnt r t + 1

theorem findEnt_le (l : List (List UInt8 × Int × Int)) (t : List UInt8) : findEnt l t ≤ l.length := by
  induction l with
  | nil => simp [findEnt]
  | cons e l ih => rw [findEnt]; split <;> simp; omega
theorem findEnt_hit (l : List (List UInt8 × Int × Int)) (t : List UInt8) (k : Nat) (h : k < l.length) (he : l[k].1 = t) : findEnt (l.drop k) t = 0 := by
  rw [List.drop_eq_getElem_cons h, findEnt, if_pos he]
theorem findEnt_miss (l : List (List UInt8 × Int × Int)) (t : List UInt8) (k : Nat) (h : k < l.length) (he : l[k].1 ≠ t) : findEnt (l.drop k) t = findEnt (l.drop (k + 1)) t + 1 := by
  rw [List.drop_eq_getElem_cons h, findEnt, if_neg he]
theorem findEnt_end (l : List (List UInt8 × Int × Int)) (t : List UInt8) (k : Nat) (h : l.length ≤ k) : findEnt (l.drop k) t = 0 := by
  rw [List.drop_eq_nil_of_le h]; rfl

/-- The names of the outs; the names of the inputs, which stand first. -/
def outNames (l : List (List UInt8 × Int × Int)) : List (List UInt8) := (l.filter fun e => e.2.1 == 2).map fun e => e.1
def inNames (n : Nat) (l : List (List UInt8 × Int × Int)) : List (List UInt8) := (l.take n).map fun e => e.1
theorem outNames_snoc (l : List (List UInt8 × Int × Int)) (t : List UInt8) (k n : Int) (hk : k ≠ 2) : outNames (l ++ [(t, k, n)]) = outNames l := by
  have : (k == 2) = false := by simpa using hk
  simp [outNames, this]
theorem outNames_out (l : List (List UInt8 × Int × Int)) (t : List UInt8) (n : Int) : outNames (l ++ [(t, 2, n)]) = outNames l ++ [t] := by simp [outNames]
theorem inNames_snoc (m : Nat) (l : List (List UInt8 × Int × Int)) (e : List UInt8 × Int × Int) (h : m ≤ l.length) : inNames m (l ++ [e]) = inNames m l := by
  simp [inNames, List.take_append_of_le_length h]
theorem inNames_in (l : List (List UInt8 × Int × Int)) (e : List UInt8 × Int × Int) : inNames (l.length + 1) (l ++ [e]) = inNames l.length l ++ [e.1] := by
  have h : (l ++ [e]).take (l.length + 1) = l ++ [e] := List.take_of_length_le (by simp)
  simp [inNames, h]
theorem outNames_len (l : List (List UInt8 × Int × Int)) : (outNames l).length ≤ l.length := by
  unfold outNames; rw [List.length_map]; exact List.length_filter_le _ _
theorem inNames_len (m : Nat) (l : List (List UInt8 × Int × Int)) : (inNames m l).length ≤ l.length := by
  unfold inNames; rw [List.length_map, List.length_take]; omega
/-- lx are the names of the inputs, ly those of the outs. -/
structure Named (r : RdM) (lx ly : List (List UInt8)) : Prop where
  ins : lx = inNames r.ins.length r.ents
  le : r.ins.length ≤ r.ents.length
  outs : ly = outNames r.ents
theorem Named.pos {r : RdM} {lx ly : List (List UInt8)} (h : Named r lx ly) (p : Nat) : Named { r with pos := p } lx ly := ⟨h.ins, h.le, h.outs⟩
theorem Named.addNode {r : RdM} {lx ly : List (List UInt8)} (h : Named r lx ly) (n : NodeM) : Named (r.addNode n) lx ly := ⟨h.ins, h.le, h.outs⟩
theorem Named.addEnt {r : RdM} {lx ly : List (List UInt8)} (h : Named r lx ly) (t : List UInt8) (k n : Int) (hk : k ≠ 2) : Named (r.addEnt t k n) lx ly := by
  refine ⟨?_, ?_, ?_⟩
  · unfold RdM.addEnt; simp only; rw [inNames_snoc _ _ _ h.le]; exact h.ins
  · unfold RdM.addEnt; simp only [List.length_append]; have := h.le; omega
  · unfold RdM.addEnt; simp only; rw [outNames_snoc _ _ _ _ hk]; exact h.outs
theorem Named.addOut {r : RdM} {lx ly : List (List UInt8)} (h : Named r lx ly) (t : List UInt8) (n : Int) : Named ((r.addEnt t 2 n).addOut n) lx (ly ++ [t]) := by
  refine ⟨?_, ?_, ?_⟩
  · unfold RdM.addEnt RdM.addOut; simp only; rw [inNames_snoc _ _ _ h.le]; exact h.ins
  · unfold RdM.addEnt RdM.addOut; simp only [List.length_append]; have := h.le; omega
  · unfold RdM.addEnt RdM.addOut; simp only; rw [outNames_out, h.outs]
theorem Named.addIn {r : RdM} {lx ly : List (List UInt8)} (h : Named r lx ly) (he : r.ents.length = r.ins.length) (t : List UInt8) (p : Int × Int) (n : NodeM) (k : Int) : Named (((r.addIn p).addNode n).addEnt t 0 k) (lx ++ [t]) ly := by
  refine ⟨?_, ?_, ?_⟩
  · unfold RdM.addEnt RdM.addNode RdM.addIn; simp only [List.length_append, List.length_singleton]; rw [← he, inNames_in, he, h.ins]
  · unfold RdM.addEnt RdM.addNode RdM.addIn; simp only [List.length_append, List.length_singleton]; omega
  · unfold RdM.addEnt RdM.addNode RdM.addIn; simp only; rw [outNames_snoc _ _ _ _ (by decide)]; exact h.outs

/-- The node of a known name of one kind (0: a value, 1: a flag, 2: an out). -/
def RdM.known (k : Int) (r : RdM) : Option Int :=
  match r.ents[findEnt r.ents r.peek]? with
  | none => none
  | some e => if e.2.1 = k then some e.2.2 else none
def RdM.newName (r : RdM) : Option (List UInt8) :=
  if isName r.peek = true ∧ findEnt r.ents r.peek = r.ents.length then some r.peek else none
def RdM.num (r : RdM) (lo hi : Int) : Option Int :=
  if (number r.peek).2 = true ∧ lo ≤ (number r.peek).1 ∧ (number r.peek).1 ≤ hi then some (number r.peek).1 else none

end Go.Proofs.YtfaljekgpnbmiaaGreat.Pl
