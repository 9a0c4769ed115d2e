/-
  The text of one table is read as a plan of two nodes: the input and the table.
-/
import Derived.Test.YtfaljekgpnbmiaaPlainBand
namespace Go.Proofs.Ytfaljekgpnbmiaa.Pl

theorem newName_at {r : RdM} {t : List UInt8} {ts : List (List UInt8)} (h : r.toks.drop r.pos = t :: ts) (hp : r.pos < 600) (hn : isName t = true) (hf : findEnt r.ents t = r.ents.length) : r.newName = some t := by
  unfold RdM.newName
  rw [peek_at h hp, if_pos ⟨hn, hf⟩]
theorem read_input (W ts : List (List UInt8)) (hW : W = kIn :: [120] :: tLo :: tHi :: ts) : inputR ⟨[], [], [], W, 1, []⟩ = (true, ⟨[(-200000, 200000)], [⟨1, 0, 0, 0, 0, []⟩], [], W, 4, [([120], 0, 0)]⟩) := by
  have d1 : W.drop 1 = [120] :: tLo :: tHi :: ts := by rw [hW]; rfl
  have d2 := drop_next d1
  have d3 := drop_next d2
  unfold inputR
  rw [newName_at (r := ⟨[], [], [], W, 1, []⟩) d1 (by simp) (by decide) rfl]
  simp only
  rw [skip_at (r := ⟨[], [], [], W, 1, []⟩) d1 (by simp) (by decide)]
  rw [num_at (r := ⟨[], [], [], W, 1 + 1, []⟩) d2 (by simp) (-1000000000) 1000000000 (-200000) (by decide) (by omega) (by omega)]
  simp only
  rw [skip_at (r := ⟨[], [], [], W, 1 + 1, []⟩) d2 (by simp) (by decide)]
  rw [num_at (r := ⟨[], [], [], W, 1 + 1 + 1, []⟩) d3 (by simp) (-200000) 1000000000 200000 (by decide) (by omega) (by omega)]
  simp only
  rw [skip_at (r := ⟨[], [], [], W, 1 + 1 + 1, []⟩) d3 (by simp) (by decide)]
  rfl
theorem read_x (m : Nat) (r : RdM) (ts : List (List UInt8)) (h : r.toks.drop r.pos = [120] :: ts) (hp : r.pos < 600) (he : r.ents = [([120], 0, 0)]) : read m false r = (some 0, { r with pos := r.pos + 1 }) := by
  have hpk := peek_at h hp
  have hleaf : r.leaf = (some 0, { r with pos := r.pos + 1 }) := by
    unfold RdM.leaf RdM.constant
    have hn : r.num (-1000000000) 1000000000 = none := by unfold RdM.num; rw [hpk, if_neg (by decide)]
    rw [hn]
    simp only
    have hk : r.known 0 = some 0 := by unfold RdM.known; rw [hpk, he]; rfl
    unfold RdM.knownStep
    rw [hk]
    simp only
    rw [skip_at h hp (by decide)]
  cases m with
  | zero => exact hleaf
  | succ m =>
    show exprR _ _ r = _
    unfold exprR
    rw [hpk, if_neg (by decide), if_neg (by decide), if_neg (by decide), if_neg (by decide), if_neg (by decide), if_neg (by decide), if_neg (by decide), if_neg (by decide), hleaf]
theorem read_band (l : List (Int × Int)) (h1 : 1 ≤ l.length) (h6 : l.length ≤ 6) (hr : Rising (-1000000000) l) :
    textR (startR (bandText l)) = (true, ⟨[(-200000, 200000)], [⟨1, 0, 0, 0, 0, []⟩, ⟨12, 0, 0, 0, 0, l⟩], [1], bandWords l, 9 + 2 * l.length, [([120], 0, 0), ([116], 2, 1)]⟩) := by
  have hst : startR (bandText l) = ⟨[], [], [], bandWords l, 0, []⟩ := by unfold startR bandText; rw [tokens_unwords _ (bandWords_good l h6 hr)]
  rw [hst]
  have hlen : (bandWords l).length = 9 + 2 * l.length := by unfold bandWords; simp [bandToks_len]; omega
  generalize hW : bandWords l = W at *
  have d0 : W.drop 0 = kIn :: [120] :: tLo :: tHi :: kOut :: [116] :: kTab :: [120] :: decimalOf l.length :: bandToks l := by rw [← hW]; rfl
  have d4 : W.drop 4 = kOut :: [116] :: kTab :: [120] :: decimalOf l.length :: bandToks l := by rw [← hW]; rfl
  have d5 := drop_next d4
  have d6 := drop_next d5
  have d7 := drop_next d6
  have d8 := drop_next d7
  have d9 := drop_next d8
  have hI := read_input W _ (by rw [← hW]; rfl)
  have p4 : ∀ ins nodes outs ents, RdM.peek ⟨ins, nodes, outs, W, 4, ents⟩ = kOut := fun ins nodes outs ents => peek_at (r := ⟨ins, nodes, outs, W, 4, ents⟩) d4 (by simp)
  have hin : inputsR 4 false ⟨[], [], [], W, 0, []⟩ = (true, ⟨[(-200000, 200000)], [⟨1, 0, 0, 0, 0, []⟩], [], W, 4, [([120], 0, 0)]⟩) := by
    rw [inputsR, peek_at (r := ⟨[], [], [], W, 0, []⟩) d0 (by simp), if_pos rfl, skip_at (r := ⟨[], [], [], W, 0, []⟩) d0 (by simp) (by decide)]
    show (match inputR ⟨[], [], [], W, 1, []⟩ with | (false, r1) => (false, r1) | (true, r1) => inputsR 3 true r1) = _
    rw [hI]
    show inputsR 3 true _ = _
    rw [inputsR, p4, if_neg (by decide)]
  have hlet : letsR 16 ⟨[(-200000, 200000)], [⟨1, 0, 0, 0, 0, []⟩], [], W, 4, [([120], 0, 0)]⟩ = (true, ⟨[(-200000, 200000)], [⟨1, 0, 0, 0, 0, []⟩], [], W, 4, [([120], 0, 0)]⟩) := by
    rw [letsR, p4, if_neg (by decide)]
  have hN := number_decimal (l.length : Int) (by omega) (by omega)
  have hdN := (decimal_tok (l.length : Int) (by omega) (by omega)).1
  have htab : read 600 false ⟨[(-200000, 200000)], [⟨1, 0, 0, 0, 0, []⟩], [], W, 6, [([120], 0, 0)]⟩ = (some 1, ⟨[(-200000, 200000)], [⟨1, 0, 0, 0, 0, []⟩, ⟨12, 0, 0, 0, 0, l⟩], [], W, 9 + 2 * l.length, [([120], 0, 0)]⟩) := by
    show exprR (read 599 true) (read 599 false) _ = _
    unfold exprR
    rw [peek_at (r := ⟨[(-200000, 200000)], [⟨1, 0, 0, 0, 0, []⟩], [], W, 6, [([120], 0, 0)]⟩) d6 (by simp)]
    rw [if_neg (by decide), if_neg (by decide), if_neg (by decide), if_neg (by decide), if_neg (by decide), if_neg (by decide), if_neg (by decide), if_pos rfl]
    rw [skip_at (r := ⟨[(-200000, 200000)], [⟨1, 0, 0, 0, 0, []⟩], [], W, 6, [([120], 0, 0)]⟩) d6 (by simp) (by decide)]
    unfold tableR
    rw [read_x 599 ⟨[(-200000, 200000)], [⟨1, 0, 0, 0, 0, []⟩], [], W, 6 + 1, [([120], 0, 0)]⟩ _ d7 (by simp) rfl]
    simp only
    rw [num_at (r := ⟨[(-200000, 200000)], [⟨1, 0, 0, 0, 0, []⟩], [], W, 6 + 1 + 1, [([120], 0, 0)]⟩) d8 (by simp) 1 6 l.length hN (by omega) (by omega)]
    simp only [Int.toNat_natCast]
    rw [skip_at (r := ⟨[(-200000, 200000)], [⟨1, 0, 0, 0, 0, []⟩], [], W, 6 + 1 + 1, [([120], 0, 0)]⟩) d8 (by simp) hdN]
    rw [bandsR_at l ⟨[(-200000, 200000)], [⟨1, 0, 0, 0, 0, []⟩], [], W, 6 + 1 + 1 + 1, [([120], 0, 0)]⟩ [] (-1000000000) [] (by rw [List.append_nil]; exact d9) (by simp only; omega) (by omega) hr]
    simp only [List.nil_append]
    rfl
  have hnm : namedR ⟨[(-200000, 200000)], [⟨1, 0, 0, 0, 0, []⟩], [], W, 5, [([120], 0, 0)]⟩ = (some ([116], 1), ⟨[(-200000, 200000)], [⟨1, 0, 0, 0, 0, []⟩, ⟨12, 0, 0, 0, 0, l⟩], [], W, 9 + 2 * l.length, [([120], 0, 0)]⟩) := by
    unfold namedR
    rw [newName_at (r := ⟨[(-200000, 200000)], [⟨1, 0, 0, 0, 0, []⟩], [], W, 5, [([120], 0, 0)]⟩) d5 (by simp) (by decide) (by show findEnt [([120], 0, 0)] [116] = 1; decide)]
    simp only
    rw [skip_at (r := ⟨[(-200000, 200000)], [⟨1, 0, 0, 0, 0, []⟩], [], W, 5, [([120], 0, 0)]⟩) d5 (by simp) (by decide)]
    simp only
    rw [htab]
  unfold textR
  rw [hin]
  simp only
  rw [hlet]
  simp only
  rw [outsR, if_neg (by simp), p4, if_pos rfl, skip_at (r := ⟨[(-200000, 200000)], [⟨1, 0, 0, 0, 0, []⟩], [], W, 4, [([120], 0, 0)]⟩) d4 (by simp) (by decide)]
  show (match namedR ⟨[(-200000, 200000)], [⟨1, 0, 0, 0, 0, []⟩], [], W, 5, [([120], 0, 0)]⟩ with | (none, r1) => (false, r1) | (some p, r1) => outsR 3 true ((r1.addEnt p.1 2 p.2).addOut p.2)) = _
  rw [hnm]
  show outsR 3 true _ = _
  rw [outsR, if_pos ⟨rfl, by show W.length ≤ _; rw [hlen]; exact Nat.le_refl _⟩]
  rfl

end Go.Proofs.Ytfaljekgpnbmiaa.Pl
