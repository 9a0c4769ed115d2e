/-
  The contract of token.Split: the tokens of the text, in a list of the call's own.
-/
import Derived.Test.YtfaljekgpnbmiaaTok
import Derived.Test.YtfaljekgpnbmiaaPlainScan
namespace Go.Proofs.Ytfaljekgpnbmiaa
open Go.RowKit

def strV (t : List UInt8) : Value := .string ⟨t.toArray⟩
def StrsOwn (B : Nat) (w : World) (v : Value) (l : List (List UInt8)) : Prop := w.ownsRow B 9 1 v l.length (l.map strV)
theorem Try.infoStr : (Try.prog.info? 9).map (fun i => (i.zero, i.size, i.bytes)) = some (some (.string ⟨#[]⟩), 1, 16) := by kernel_rfl

theorem StrsOwn.grown {B : Nat} {w1 : World} {v' : Value} {l : List (List UInt8)} {t : List UInt8} (h : w1.ownsRow B 9 1 v' (l.length + 1) (l.map strV ++ [strV t])) : StrsOwn B w1 v' (l ++ [t]) := by
  unfold StrsOwn; simpa using h
theorem one_news {w : World} (x : Value) : ∀ j u, [x][j]? = some u → (w.alloc (.cells #[x] 9)).cell? ((⟨w.heap.size, 0, none⟩ : Addr).add j) = some u := by
  intro j u hj
  match j, hj with
  | 0, hj => simp at hj; subst hj; simp [Addr.add]
theorem one_cell (t : List UInt8) : ∀ u ∈ [strV t], u.oneCell' = true := by intro u hu; simp at hu; subst hu; rfl
theorem own_base {w : World} {B : Nat} {e : TypeId} {size : Nat} {v : Value} {n : Nat} {xs : List Value} (h : w.ownsRow B e size v n xs) : ∀ k, v.ownBlock = some k → B ≤ k := fun k hk => (h.lt k hk).1

set_option maxHeartbeats 1000000 in
theorem Split_any (l : List UInt8) (w : World) (hl : l.length ≤ 6000) :
    Calls Try.prog 38 #[.string ⟨l.toArray⟩] w fun e w' => ∃ v, e = .returned v ∧ StrsOwn w.heap.size w' v (Pl.tokens l) ∧ Below w.heap.size w w' := by
  obtain ⟨i0, hi, hz0, hz1, hz2⟩ := info_parts Try.infoStr
  go_enter Try.func38, Try.ntmps38
  go_wp2
  go_loopw [3, 4] (fun v i wr => ∃ (k : Nat) (acc : List (List UInt8)), k ≤ l.length ∧ acc.length ≤ k ∧ i = .int .i64 k ∧ StrsOwn w.heap.size wr v acc ∧ Below w.heap.size w wr ∧ Hid (acc ++ Pl.scan (l.drop k) [] false = Pl.tokens l)) (fun _ i _ => l.length - (intOf i).toNat)
  case atStart => exact ⟨0, [], by omega, by simp, rfl, World.ownsRow_nil _ _ _ _, Below.refl _ _, rfl⟩
  case round =>
    obtain ⟨k, acc, hk, hacc, rfl, hown, hbel, hr⟩ := hrel
    by_cases hlt : k < l.length
    · have hb := bget l k hlt
      have hge := Pl.runEnd_ge l k
      have hle := Pl.runEnd_le l k hk
      by_cases hrun : k < Pl.runEnd l k
      · have hx : (ByteArray.mk l.toArray).extract k (Pl.runEnd l k) = ⟨((l.drop k).take (Pl.runEnd l k - k)).toArray⟩ := bext _ _ _
        have hsc : Hid ((acc ++ [(l.drop k).take (Pl.runEnd l k - k)]) ++ Pl.scan (l.drop (Pl.runEnd l k)) [] false = Pl.tokens l) := by
          have := hr.out; rw [Pl.scan_run l k hrun] at this; simpa [Hid] using this
        generalize hep : Pl.runEnd l k = ep at *
        generalize hte : (l.drop k).take (ep - k) = tk at *
        have hep' : Hid (Pl.runEnd l k = ep) := hep
        clear hep hte hr
        go_wp2_with (first
          | (go_at_call 53; refine (runEnd_any l k _ (by unfold maxLen; omega) hk).mono ?_; rintro e w' ⟨rfl, rfl⟩; rw [hep'.out])
          | (at_builtin; refine wpList_append_own _ rfl _ _ 48 rfl w.heap.size 9 i0 (.string ⟨#[]⟩) 1 16 Try.underlying48 hi hz0 hz1 hz2 rfl (by decide) _ _ _ rfl (World.ownsRow.alloc hown _) ⟨_, 0, none⟩ 1 1 [strV tk] rfl rfl ?c1 (one_cell _) ?c3 ?c4 ?c5 ?_))
        case c1 => exact one_news (strV tk)
        case c3 => unfold maxLen; omega
        case c4 => omega
        case c5 => have := hbel.size; simp; omega
        · intro v' w1 hown' hgrow _
          have hA := StrsOwn.grown hown'
          have hB := (hbel.alloc hbel.size (Obj.cells #[Value.string ⟨tk.toArray⟩] 9)).grown hgrow (by have := hbel.size; simp; omega) (own_base hown)
          clear hown' hgrow hown hbel hx hb
          go_wp2
          go_roundw
          case rel => exact ⟨ep, acc ++ [tk], hle, by simp; omega, rfl, hA, hB, hsc.out⟩
          case measure => simp [intOf]; omega
      · have htok := Pl.isTok_of_run l k hlt hrun
        have hre : Pl.runEnd l k = k := by omega
        have hre' : Hid (Pl.runEnd l k = k) := hre
        clear hre hge hle hrun
        by_cases h35 : l[k].toNat = 35
        · have hbo : ((l[k].toNat : Int) == 35) = true := by rw [beq_iff_eq]; omega
          have hsc : Hid (acc ++ Pl.scan (l.drop (Pl.remEnd l k)) [] false = Pl.tokens l) := by have := hr.out; rw [Pl.scan_remark l k hlt h35] at this; exact this
          have hgt := Pl.remEnd_gt l k hlt h35
          have hle := Pl.remEnd_le l k hk
          clear hr htok h35
          generalize hep : Pl.remEnd l k = ep at *
          have hep' : Hid (Pl.remEnd l k = ep) := hep
          clear hep
          go_wp2_with (first
            | (go_at_call 53; refine (runEnd_any l k _ (by unfold maxLen; omega) hk).mono ?_; rintro e w' ⟨rfl, rfl⟩; rw [hre'.out])
            | (go_at_call 54; refine (remarkEnd_any l k _ (by unfold maxLen; omega) hk).mono ?_; rintro e w' ⟨rfl, rfl⟩; rw [hep'.out]))
          go_roundw
          case rel => exact ⟨ep, acc, hle, by omega, rfl, hown, hbel, hsc.out⟩
          case measure => simp [intOf]; omega
        · have hbo : ((l[k].toNat : Int) == 35) = false := by rw [beq_eq_false_iff_ne]; omega
          have hsc : Hid (acc ++ Pl.scan (l.drop (k + 1)) [] false = Pl.tokens l) := by have := hr.out; rw [Pl.scan_blank l k hlt htok h35] at this; exact this
          clear hr htok h35
          go_wp2_with (go_at_call 53; refine (runEnd_any l k _ (by unfold maxLen; omega) hk).mono ?_; rintro e w' ⟨rfl, rfl⟩; rw [hre'.out])
          go_roundw
          case rel => exact ⟨k + 1, acc, by omega, by omega, by go_num, hown, hbel, hsc.out⟩
          case measure => simp [intOf]; omega
    · have hsc : Hid (acc = Pl.tokens l) := by have := hr.out; rw [List.drop_eq_nil_of_le (by omega)] at this; simpa [Pl.scan, Pl.emit, Hid] using this
      clear hr
      go_wp2
      go_ret
      rw [hsc.out] at hown
      exact ⟨_, rfl, hown, hbel⟩
end Go.Proofs.Ytfaljekgpnbmiaa
