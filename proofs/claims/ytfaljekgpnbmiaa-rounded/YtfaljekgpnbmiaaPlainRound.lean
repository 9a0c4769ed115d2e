/-
  The two texts of Rounded, what the program reads out of them, and what they come to.
-/
import Derived.Test.YtfaljekgpnbmiaaPlainBand3
namespace Go.Proofs.Ytfaljekgpnbmiaa.Pl
open Go.RowKit

def gLo : List UInt8 := [45, 49, 48, 48, 48, 48, 48, 48, 48, 48, 48]
def gHi : List UInt8 := [49, 48, 48, 48, 48, 48, 48, 48, 48, 48]
def divWords (name m t : List UInt8) : List (List UInt8) := [kOut, name, kDiv, m, [120], t]
def roundWords (t : List UInt8) : List (List UInt8) := [kIn, [120], gLo, gHi] ++ divWords [97] kDown t ++ divWords [98] kUp t ++ divWords [99] kZero t ++ divWords [100] kNear t
def flrWords (t : List UInt8) : List (List UInt8) := [kIn, [120], gLo, gHi, kSet, [97], kFlr, [120], t, kOut, [98], [97]]
theorem roundWords_good (t : List UInt8) (h : GoodT t) : ∀ u ∈ roundWords t, GoodT u := by
  intro u hu
  simp [roundWords, divWords] at hu
  rcases hu with rfl | rfl | rfl | rfl | rfl | rfl | rfl | rfl | rfl | rfl | rfl | rfl | rfl | rfl | rfl | rfl | rfl | rfl | rfl | rfl | rfl | rfl | rfl | rfl | rfl | rfl | rfl | rfl <;> first | exact h | exact ⟨by decide, by decide⟩
theorem flrWords_good (t : List UInt8) (h : GoodT t) : ∀ u ∈ flrWords t, GoodT u := by
  intro u hu
  simp [flrWords] at hu
  rcases hu with rfl | rfl | rfl | rfl | rfl | rfl | rfl | rfl | rfl | rfl | rfl | rfl <;> first | exact h | exact ⟨by decide, by decide⟩

theorem round_input (W ts : List (List UInt8)) (hW : W = kIn :: [120] :: gLo :: gHi :: ts) : inputR ⟨[], [], [], W, 1, []⟩ = (true, ⟨[(-1000000000, 1000000000)], [⟨1, 0, 0, 0, 0, []⟩], [], W, 4, [([120], 0, 0)]⟩) := by
  have d1 : W.drop 1 = [120] :: gLo :: gHi :: ts := by rw [hW]; rfl
  have d2 := drop_next d1
  have d3 := drop_next d2
  unfold inputR
  rw [newName_at (r := ⟨[], [], [], W, 1, []⟩) d1 (by simp) (by decide) rfl]
  simp only
  rw [skip_at (r := ⟨[], [], [], W, 1, []⟩) d1 (by simp) (by decide)]
  rw [num_at (r := ⟨[], [], [], W, 1 + 1, []⟩) d2 (by simp) (-1000000000) 1000000000 (-1000000000) (by decide) (by omega) (by omega)]
  simp only
  rw [skip_at (r := ⟨[], [], [], W, 1 + 1, []⟩) d2 (by simp) (by decide)]
  rw [num_at (r := ⟨[], [], [], W, 1 + 1 + 1, []⟩) d3 (by simp) (-1000000000) 1000000000 1000000000 (by decide) (by omega) (by omega)]
  simp only
  rw [skip_at (r := ⟨[], [], [], W, 1 + 1 + 1, []⟩) d3 (by simp) (by decide)]
  rfl
theorem inputs_one (W ts : List (List UInt8)) (u : List UInt8) (hW : W = kIn :: [120] :: gLo :: gHi :: u :: ts) (hu : u ≠ kIn) : inputsR 4 false ⟨[], [], [], W, 0, []⟩ = (true, ⟨[(-1000000000, 1000000000)], [⟨1, 0, 0, 0, 0, []⟩], [], W, 4, [([120], 0, 0)]⟩) := by
  have d0 : W.drop 0 = kIn :: [120] :: gLo :: gHi :: u :: ts := by rw [hW]; rfl
  have d4 : W.drop 4 = u :: ts := by rw [hW]; rfl
  have hI := round_input W _ hW
  rw [inputsR, peek_at (r := ⟨[], [], [], W, 0, []⟩) d0 (by simp), if_pos rfl, skip_at (r := ⟨[], [], [], W, 0, []⟩) d0 (by simp) (by decide)]
  show (match inputR ⟨[], [], [], W, 1, []⟩ with | (false, r1) => (false, r1) | (true, r1) => inputsR 3 true r1) = _
  rw [hI]
  show inputsR 3 true _ = _
  rw [inputsR, peek_at (r := ⟨_, _, _, W, 4, _⟩) d4 (by simp), if_neg hu]

/-- A known value's name, read as an expression or an argument. -/
theorem leaf_x (r : RdM) (ts : List (List UInt8)) (h : r.toks.drop r.pos = [120] :: ts) (hp : r.pos < 600) (es : List (List UInt8 × Int × Int)) (he : r.ents = ([120], 0, 0) :: es) : r.leaf = (some 0, { r with pos := r.pos + 1 }) := by
  have hpk := peek_at h hp
  unfold RdM.leaf RdM.constant
  have hn : r.num (-1000000000) 1000000000 = none := by unfold RdM.num; rw [hpk, if_neg (by decide)]
  rw [hn]
  simp only
  have hk : r.known 0 = some 0 := by unfold RdM.known; rw [hpk, he]; rfl
  unfold RdM.knownStep
  rw [hk]
  simp only
  rw [skip_at h hp (by decide)]
theorem read_x' (m : Nat) (r : RdM) (ts : List (List UInt8)) (h : r.toks.drop r.pos = [120] :: ts) (hp : r.pos < 600) (es : List (List UInt8 × Int × Int)) (he : r.ents = ([120], 0, 0) :: es) : read m false r = (some 0, { r with pos := r.pos + 1 }) := by
  have hleaf := leaf_x r ts h hp es he
  cases m with
  | zero => exact hleaf
  | succ m =>
    show exprR _ _ r = _
    unfold exprR
    rw [peek_at h hp, if_neg (by decide), if_neg (by decide), if_neg (by decide), if_neg (by decide), if_neg (by decide), if_neg (by decide), if_neg (by decide), if_neg (by decide), hleaf]
/-- One rounding is read. -/
theorem read_div (k op : Int) (m t : List UInt8) (r : RdM) (ts : List (List UInt8)) (h : r.toks.drop r.pos = kDiv :: m :: [120] :: t :: ts) (hp : r.pos + 4 < 600) (es : List (List UInt8 × Int × Int)) (he : r.ents = ([120], 0, 0) :: es)
    (hm : roundingOf m = some op) (hm0 : m ≠ []) (ht : number t = (k, true)) (ht0 : t ≠ []) (hk : 1 ≤ k) (hk' : k ≤ 1000000) :
    read 600 false r = (some (r.nodes.length : Int), { r with pos := r.pos + 4, nodes := r.nodes ++ [⟨op, 0, 0, 0, k, []⟩] }) := by
  have d1 := drop_next h
  have d2 := drop_next d1
  have d3 := drop_next d2
  show exprR (read 599 true) (read 599 false) r = _
  unfold exprR
  rw [peek_at h (by omega), if_neg (by decide), if_neg (by decide), if_neg (by decide), if_neg (by decide), if_neg (by decide), if_neg (by decide), if_pos rfl]
  rw [skip_at h (by omega) (by decide)]
  unfold quotientR
  rw [peek_at (r := { r with pos := r.pos + 1 }) d1 (by simp only; omega), hm]
  simp only
  rw [skip_at (r := { r with pos := r.pos + 1 }) d1 (by simp only; omega) hm0]
  rw [read_x' 599 { r with pos := r.pos + 1 + 1 } _ d2 (by simp only; omega) es he]
  simp only
  rw [num_at (r := { r with pos := r.pos + 1 + 1 + 1 }) d3 (by simp only; omega) 1 1000000 k ht hk hk']
  simp only
  rw [skip_at (r := { r with pos := r.pos + 1 + 1 + 1 }) d3 (by simp only; omega) ht0]
  rfl
theorem outs_div (n : Nat) (any : Bool) (k op : Int) (name m t : List UInt8) (r : RdM) (ts : List (List UInt8)) (h : r.toks.drop r.pos = kOut :: name :: kDiv :: m :: [120] :: t :: ts) (hp : r.pos + 6 < 600) (es : List (List UInt8 × Int × Int)) (he : r.ents = ([120], 0, 0) :: es)
    (hn : isName name = true) (hf : findEnt r.ents name = r.ents.length) (hn0 : name ≠ []) (hm : roundingOf m = some op) (hm0 : m ≠ []) (ht : number t = (k, true)) (ht0 : t ≠ []) (hk : 1 ≤ k) (hk' : k ≤ 1000000) :
    outsR (n + 1) any r = outsR n true ⟨r.ins, r.nodes ++ [⟨op, 0, 0, 0, k, []⟩], r.outs ++ [(r.nodes.length : Int)], r.toks, r.pos + 6, r.ents ++ [(name, 2, (r.nodes.length : Int))]⟩ := by
  have d1 := drop_next h
  have d2 := drop_next d1
  have hlt : r.pos < r.toks.length := by
    apply Classical.byContradiction
    intro hc
    rw [List.drop_eq_nil_of_le (by omega)] at h
    cases h
  rw [outsR, if_neg (by omega), peek_at h (by omega), if_pos rfl, skip_at h (by omega) (by decide)]
  have hN : namedR { r with pos := r.pos + 1 } = (some (name, (r.nodes.length : Int)), { r with pos := r.pos + 6, nodes := r.nodes ++ [⟨op, 0, 0, 0, k, []⟩] }) := by
    unfold namedR
    rw [newName_at (r := { r with pos := r.pos + 1 }) d1 (by simp only; omega) hn hf]
    simp only
    rw [skip_at (r := { r with pos := r.pos + 1 }) d1 (by simp only; omega) hn0]
    rw [read_div k op m t { r with pos := r.pos + 1 + 1 } ts d2 (by simp only; omega) es he hm hm0 ht ht0 hk hk']
  rw [hN]
  rfl
theorem read_round (k : Int) (t : List UInt8) (ht : number t = (k, true)) (hg : GoodT t) (hk : 1 ≤ k) (hk' : k ≤ 1000000) :
    textR (startR (unwords (roundWords t))) = (true, ⟨[(-1000000000, 1000000000)], [⟨1, 0, 0, 0, 0, []⟩, ⟨8, 0, 0, 0, k, []⟩, ⟨9, 0, 0, 0, k, []⟩, ⟨10, 0, 0, 0, k, []⟩, ⟨11, 0, 0, 0, k, []⟩], [1, 2, 3, 4], roundWords t, 28, [([120], 0, 0), ([97], 2, 1), ([98], 2, 2), ([99], 2, 3), ([100], 2, 4)]⟩) := by
  have hst : startR (unwords (roundWords t)) = ⟨[], [], [], roundWords t, 0, []⟩ := by unfold startR; rw [tokens_unwords _ (roundWords_good t hg)]
  rw [hst]
  have hlen : (roundWords t).length = 28 := rfl
  have d4 : (roundWords t).drop 4 = divWords [97] kDown t ++ (divWords [98] kUp t ++ (divWords [99] kZero t ++ divWords [100] kNear t)) := rfl
  have d10 : (roundWords t).drop 10 = divWords [98] kUp t ++ (divWords [99] kZero t ++ divWords [100] kNear t) := rfl
  have d16 : (roundWords t).drop 16 = divWords [99] kZero t ++ divWords [100] kNear t := rfl
  have d22 : (roundWords t).drop 22 = divWords [100] kNear t ++ [] := rfl
  have hin := inputs_one (roundWords t) _ kOut (by rfl) (by decide)
  unfold textR
  rw [hin]
  simp only
  generalize roundWords t = W at *
  have hlet : letsR 16 ⟨[(-1000000000, 1000000000)], [⟨1, 0, 0, 0, 0, []⟩], [], W, 4, [([120], 0, 0)]⟩ = (true, ⟨[(-1000000000, 1000000000)], [⟨1, 0, 0, 0, 0, []⟩], [], W, 4, [([120], 0, 0)]⟩) := by
    rw [letsR, peek_at (r := ⟨_, _, _, W, 4, _⟩) d4 (by simp), if_neg (by decide)]
  rw [hlet]
  simp only
  rw [outs_div 3 false k 8 [97] kDown t _ _ d4 (by simp) [] rfl (by decide) rfl (by decide) rfl (by decide) ht hg.1 hk hk']
  rw [outs_div 2 true k 9 [98] kUp t _ _ d10 (by simp) _ rfl (by decide) rfl (by decide) rfl (by decide) ht hg.1 hk hk']
  rw [outs_div 1 true k 10 [99] kZero t _ _ d16 (by simp) _ rfl (by decide) rfl (by decide) rfl (by decide) ht hg.1 hk hk']
  rw [outs_div 0 true k 11 [100] kNear t _ _ d22 (by simp) _ rfl (by decide) rfl (by decide) rfl (by decide) ht hg.1 hk hk']
  show (decide (W.length ≤ 28), _) = _
  rw [hlen]
  rfl
theorem read_flr (k : Int) (t : List UInt8) (ht : number t = (k, true)) (hg : GoodT t) (hk : 1 ≤ k) (hk' : k ≤ 1000000) :
    lowR (startR (unwords (flrWords t))) = (true, ⟨[(-1000000000, 1000000000)], [⟨1, 0, 0, 0, 0, []⟩, ⟨8, 0, 0, 0, k, []⟩], [1], flrWords t, 12, [([120], 0, 0), ([97], 0, 1), ([98], 2, 1)]⟩) := by
  have hst : startR (unwords (flrWords t)) = ⟨[], [], [], flrWords t, 0, []⟩ := by unfold startR; rw [tokens_unwords _ (flrWords_good t hg)]
  rw [hst]
  have hlen : (flrWords t).length = 12 := rfl
  have d4 : (flrWords t).drop 4 = [kSet, [97], kFlr, [120], t, kOut, [98], [97]] := rfl
  have hin := inputs_one (flrWords t) _ kSet (by rfl) (by decide)
  unfold lowR
  rw [hin]
  simp only
  generalize flrWords t = W at *
  have d5 := drop_next d4
  have d6 := drop_next d5
  have d7 := drop_next d6
  have d8 := drop_next d7
  have d9 := drop_next d8
  have d10 := drop_next d9
  have d11 := drop_next d10
  have hstp : stepR ⟨[(-1000000000, 1000000000)], [⟨1, 0, 0, 0, 0, []⟩], [], W, 5, [([120], 0, 0)]⟩ = (true, ⟨[(-1000000000, 1000000000)], [⟨1, 0, 0, 0, 0, []⟩, ⟨8, 0, 0, 0, k, []⟩], [], W, 9, [([120], 0, 0), ([97], 0, 1)]⟩) := by
    unfold stepR
    rw [newName_at (r := ⟨_, _, _, W, 5, [([120], 0, 0)]⟩) d5 (by simp) (by decide) (by rfl)]
    simp only
    rw [skip_at (r := ⟨_, _, _, W, 5, _⟩) d5 (by simp) (by decide)]
    simp only
    rw [peek_at (r := ⟨_, _, _, W, 5 + 1, _⟩) d6 (by simp)]
    have ho : opOf kFlr = some 8 := by decide
    rw [ho]
    simp only
    rw [skip_at (r := ⟨_, _, _, W, 5 + 1, _⟩) d6 (by simp) (by decide)]
    have hres : resultLR 8 ⟨[(-1000000000, 1000000000)], [⟨1, 0, 0, 0, 0, []⟩], [], W, 5 + 1 + 1, [([120], 0, 0)]⟩ = (some 1, ⟨[(-1000000000, 1000000000)], [⟨1, 0, 0, 0, 0, []⟩, ⟨8, 0, 0, 0, k, []⟩], [], W, 9, [([120], 0, 0)]⟩) := by
      unfold resultLR
      rw [if_neg (by decide), if_pos rfl]
      unfold quotLR
      rw [leaf_x ⟨_, _, _, W, 5 + 1 + 1, [([120], 0, 0)]⟩ _ d7 (by simp) [] rfl]
      simp only
      rw [num_at (r := ⟨_, _, _, W, 5 + 1 + 1 + 1, _⟩) d8 (by simp) 1 1000000 k ht hk hk']
      simp only
      rw [skip_at (r := ⟨_, _, _, W, 5 + 1 + 1 + 1, _⟩) d8 (by simp) hg.1]
      rfl
    rw [hres]
    rfl
  have hsteps : stepsR 80 ⟨[(-1000000000, 1000000000)], [⟨1, 0, 0, 0, 0, []⟩], [], W, 4, [([120], 0, 0)]⟩ = (true, ⟨[(-1000000000, 1000000000)], [⟨1, 0, 0, 0, 0, []⟩, ⟨8, 0, 0, 0, k, []⟩], [], W, 9, [([120], 0, 0), ([97], 0, 1)]⟩) := by
    rw [stepsR, peek_at (r := ⟨_, _, _, W, 4, _⟩) d4 (by simp), if_pos rfl, skip_at (r := ⟨_, _, _, W, 4, _⟩) d4 (by simp) (by decide)]
    show (match stepR ⟨[(-1000000000, 1000000000)], [⟨1, 0, 0, 0, 0, []⟩], [], W, 5, [([120], 0, 0)]⟩ with | (false, r1) => (false, r1) | (true, r1) => stepsR 79 r1) = _
    rw [hstp]
    show stepsR 79 _ = _
    rw [stepsR, peek_at (r := ⟨_, _, _, W, 9, _⟩) d9 (by simp), if_neg (by decide)]
  rw [hsteps]
  simp only
  have hout : outLR ⟨[(-1000000000, 1000000000)], [⟨1, 0, 0, 0, 0, []⟩, ⟨8, 0, 0, 0, k, []⟩], [], W, 10, [([120], 0, 0), ([97], 0, 1)]⟩ = (true, ⟨[(-1000000000, 1000000000)], [⟨1, 0, 0, 0, 0, []⟩, ⟨8, 0, 0, 0, k, []⟩], [1], W, 12, [([120], 0, 0), ([97], 0, 1), ([98], 2, 1)]⟩) := by
    unfold outLR
    rw [newName_at (r := ⟨_, _, _, W, 10, [([120], 0, 0), ([97], 0, 1)]⟩) d10 (by simp) (by decide) (by rfl)]
    simp only
    rw [skip_at (r := ⟨_, _, _, W, 10, _⟩) d10 (by simp) (by decide)]
    have hpk := peek_at (r := ⟨[(-1000000000, 1000000000)], [⟨1, 0, 0, 0, 0, []⟩, ⟨8, 0, 0, 0, k, []⟩], [], W, 10 + 1, [([120], 0, 0), ([97], 0, 1)]⟩) d11 (by simp)
    have hl : RdM.leaf ⟨[(-1000000000, 1000000000)], [⟨1, 0, 0, 0, 0, []⟩, ⟨8, 0, 0, 0, k, []⟩], [], W, 10 + 1, [([120], 0, 0), ([97], 0, 1)]⟩ = (some 1, ⟨[(-1000000000, 1000000000)], [⟨1, 0, 0, 0, 0, []⟩, ⟨8, 0, 0, 0, k, []⟩], [], W, 12, [([120], 0, 0), ([97], 0, 1)]⟩) := by
      unfold RdM.leaf RdM.constant RdM.num
      rw [hpk, if_neg (by decide)]
      simp only
      unfold RdM.knownStep RdM.known
      rw [hpk]
      have he : ([([120], 0, 0), ([97], 0, 1)] : List (List UInt8 × Int × Int))[findEnt [([120], 0, 0), ([97], 0, 1)] [97]]? = some ([97], 0, 1) := by decide
      rw [he]
      simp only [if_true]
      rw [skip_at (r := ⟨_, _, _, W, 10 + 1, _⟩) d11 (by simp) (by decide)]
    rw [hl]
    rfl
  rw [outsLR, if_neg (by simp), peek_at (r := ⟨_, _, _, W, 9, _⟩) d9 (by simp), if_pos rfl, skip_at (r := ⟨_, _, _, W, 9, _⟩) d9 (by simp) (by decide)]
  show (match outLR ⟨[(-1000000000, 1000000000)], [⟨1, 0, 0, 0, 0, []⟩, ⟨8, 0, 0, 0, k, []⟩], [], W, 10, [([120], 0, 0), ([97], 0, 1)]⟩ with | (false, r1) => (false, r1) | (true, r1) => outsLR 3 true r1) = _
  rw [hout]
  show outsLR 3 true _ = _
  rw [outsLR, if_pos ⟨rfl, by show W.length ≤ _; rw [hlen]; exact Nat.le_refl _⟩]

/-- What comes out. -/
theorem floorW_spec (a d : Int) (h1 : 1 ≤ d) (hd : d ≤ 4000000) (ha : -4000000000 ≤ a) (ha' : a ≤ 4000000000) : d * floorW a d ≤ a ∧ a < d * floorW a d + d ∧ -4000000001 ≤ floorW a d ∧ floorW a d ≤ 4000000000 := by
  have e := Int.mul_tdiv_add_tmod a d
  have m1 := Int.lt_tmod_of_pos a (show 0 < d by omega)
  have m2 := Int.tmod_lt_of_pos a (show 0 < d by omega)
  have hq1 : -4000000000 ≤ a.tdiv d ∧ a.tdiv d ≤ 4000000000 := by
    have := Int.natAbs_tdiv_le_natAbs a d
    omega
  have hs : 0 ≤ a → 0 ≤ a.tmod d := fun h => Int.tmod_nonneg d h
  have hmul : d * (a.tdiv d - 1) = d * a.tdiv d - d := by rw [Int.mul_sub, Int.mul_one]
  unfold floorW
  rw [if_neg (by omega)]
  split
  · rw [wrap_id (a.tdiv d) (by omega) (by omega), wrap_id _ (by omega) (by omega), hmul]
    omega
  · rw [wrap_id (a.tdiv d) (by omega) (by omega)]
    omega
theorem round_len (t : List UInt8) (h : t.length ≤ 11) : (unwords (roundWords t)).length ≤ 400 := by
  have := unwords_len (roundWords t) (by
    intro u hu
    simp [roundWords, divWords] at hu
    rcases hu with rfl | rfl | rfl | rfl | rfl | rfl | rfl | rfl | rfl | rfl | rfl | rfl | rfl | rfl | rfl | rfl | rfl | rfl | rfl | rfl | rfl | rfl | rfl | rfl | rfl | rfl | rfl | rfl <;> first | exact h | decide)
  have e : (roundWords t).length = 28 := rfl
  omega
theorem flr_len (t : List UInt8) (h : t.length ≤ 11) : (unwords (flrWords t)).length ≤ 400 := by
  have := unwords_len (flrWords t) (by
    intro u hu
    simp [flrWords] at hu
    rcases hu with rfl | rfl | rfl | rfl | rfl | rfl | rfl | rfl | rfl | rfl | rfl | rfl <;> first | exact h | decide)
  have e : (flrWords t).length = 12 := rfl
  omega
theorem run_round (k x : Int) (hk : 1 ≤ k) (hk' : k ≤ 1000000) (hx : -1000000000 ≤ x) (hx' : x ≤ 1000000000) :
    runHigh (unwords (roundWords (decimalOf k))) [x] = (0, [quotW 8 x k, quotW 9 x k, quotW 10 x k, quotW 11 x k]) := by
  have hd := decimal_tok k (by omega) (by omega)
  have hT := read_round k (decimalOf k) (number_decimal k (by omega) (by omega)) ⟨hd.1, hd.2.1⟩ hk hk'
  have hlen := round_len (decimalOf k) hd.2.2
  have hbig : isBigW [(-1000000000, 1000000000)] [⟨1, 0, 0, 0, 0, []⟩, ⟨8, 0, 0, 0, k, []⟩, ⟨9, 0, 0, 0, k, []⟩, ⟨10, 0, 0, 0, k, []⟩, ⟨11, 0, 0, 0, k, []⟩] = false := by
    simp [isBigW, bigFrom, nodeBoundW, inputBoundW, pickL, absW, greater, wrap64]
  have hread : readHigh (unwords (roundWords (decimalOf k))) = (0, 0, (textR (startR (unwords (roundWords (decimalOf k))))).2) := by
    unfold readHigh readWith resultR
    rw [if_neg (by omega), hT]
    simp [hbig]
  unfold runHigh toldR
  rw [hread, hT]
  simp only
  rw [if_neg (by simp), if_pos (by simp [isHomeB, homeFrom]; omega)]
  rfl
theorem run_flr (k x : Int) (hk : 1 ≤ k) (hk' : k ≤ 1000000) (hx : -1000000000 ≤ x) (hx' : x ≤ 1000000000) :
    runLow (unwords (flrWords (decimalOf k))) [x] = (0, [quotW 8 x k]) := by
  have hd := decimal_tok k (by omega) (by omega)
  have hT := read_flr k (decimalOf k) (number_decimal k (by omega) (by omega)) ⟨hd.1, hd.2.1⟩ hk hk'
  have hlen := flr_len (decimalOf k) hd.2.2
  have hbig : isBigW [(-1000000000, 1000000000)] [⟨1, 0, 0, 0, 0, []⟩, ⟨8, 0, 0, 0, k, []⟩] = false := by
    simp [isBigW, bigFrom, nodeBoundW, inputBoundW, pickL, absW, greater, wrap64]
  have hread : readLow (unwords (flrWords (decimalOf k))) = (0, 0, (lowR (startR (unwords (flrWords (decimalOf k))))).2) := by
    unfold readLow readWith resultR
    rw [if_neg (by omega), hT]
    simp [hbig]
  unfold runLow toldR
  rw [hread, hT]
  simp only
  rw [if_neg (by simp), if_pos (by simp [isHomeB, homeFrom]; omega)]
  rfl
/-- What the words of the roundings say, of what the program reckons. -/
structure RoundedOk (x k a b c d : Int) : Prop where
  down : k * a ≤ x ∧ x < k * a + k
  up : x ≤ k * b ∧ k * b - k < x
  zero : (0 ≤ x ∧ c = a) ∨ (x < 0 ∧ c = b)
  near : 2 * k * d ≤ 2 * x + k ∧ 2 * x + k < 2 * k * d + 2 * k
  bd : -5000000000 ≤ a ∧ a ≤ 5000000000 ∧ -5000000000 ≤ b ∧ b ≤ 5000000000 ∧ -5000000000 ≤ d ∧ d ≤ 5000000000
theorem rounded_ok (x k : Int) (hk : 1 ≤ k) (hk' : k ≤ 1000000) (hx : -1000000000 ≤ x) (hx' : x ≤ 1000000000) : RoundedOk x k (quotW 8 x k) (quotW 9 x k) (quotW 10 x k) (quotW 11 x k) := by
  have f1 := floorW_spec x k hk (by omega) (by omega) (by omega)
  have f2 := floorW_spec (-x) k hk (by omega) (by omega) (by omega)
  have f3 := floorW_spec (2 * x + k) (2 * k) (by omega) (by omega) (by omega) (by omega)
  have q8 : quotW 8 x k = floorW x k := rfl
  have q9 : quotW 9 x k = -floorW (-x) k := by
    show wrap64 (-floorW (wrap64 (-x)) k) = _
    rw [wrap_id (-x) (by omega) (by omega), wrap_id _ (by omega) (by omega)]
  have q10 : quotW 10 x k = if 0 < x then floorW x k else -floorW (-x) k := by
    show (if 0 < x then floorW x k else wrap64 (-floorW (wrap64 (-x)) k)) = _
    rw [wrap_id (-x) (by omega) (by omega), wrap_id (-floorW (-x) k) (by omega) (by omega)]
  have q11 : quotW 11 x k = floorW (2 * x + k) (2 * k) := by
    show floorW (wrap64 (wrap64 (2 * x) + k)) (wrap64 (2 * k)) = _
    rw [wrap_id (2 * x) (by omega) (by omega), wrap_id _ (by omega) (by omega), wrap_id _ (by omega) (by omega)]
  have hneg : k * -floorW (-x) k = -(k * floorW (-x) k) := Int.mul_neg _ _
  rw [q8, q9, q10, q11]
  refine ⟨⟨f1.1, f1.2.1⟩, by omega, ?_, ⟨f3.1, f3.2.1⟩, by omega⟩
  by_cases h0 : 0 < x
  · rw [if_pos h0]; exact .inl ⟨by omega, rfl⟩
  · rw [if_neg h0]
    by_cases h1 : x < 0
    · exact .inr ⟨h1, rfl⟩
    · obtain rfl : x = 0 := by omega
      refine .inl ⟨by omega, ?_⟩
      have z : floorW 0 k = 0 := by
        unfold floorW; rw [if_neg (by omega)]; simp; exact wrap_id 0 (by omega) (by omega)
      show -floorW (-0) k = floorW 0 k
      simp [z]

end Go.Proofs.Ytfaljekgpnbmiaa.Pl
