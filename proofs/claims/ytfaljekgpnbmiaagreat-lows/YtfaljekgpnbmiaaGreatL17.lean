/- Joined: Ref6. -/
import Derived.Test.YtfaljekgpnbmiaaGreatL16
/-
  Contracts of the reference's at, forms, fits, bad.
-/
namespace Go.Proofs.YtfaljekgpnbmiaaGreat
open Go.RowKit

set_option maxRecDepth 100000 in
set_option maxHeartbeats 400000 in
theorem at_ref (l : List (List UInt8)) (v : Value) (i : Nat) (w : World) (h : StrsAt w v l) (hi : i ≤ 100000) (_ : l.length ≤ 10000) :
    Calls Tryz.prog 206 #[v, .int .i64 i] w fun e w' => e = .returned (.string ⟨(Pl.atR l i).toArray⟩) ∧ w' = w := by
  obtain ⟨ad, cap, rfl, hc⟩ := h
  by_cases h1 : i < l.length
  · by_cases h2 : i < 600
    · have hx : Hid (Pl.atR l i = l.getD i []) := by unfold Pl.atR Hid; rw [if_pos ⟨h1, h2⟩]
      obtain ⟨g, rfl, hcc⟩ := hc i h1
      rw [hx.out]
      generalize l.getD i [] = t at *
      clear hx hc
      go_enter Tryz.func206, Tryz.ntmps206
      go_wp2
      go_ret
      exact ⟨rfl, rfl⟩
    · have hx : Hid (Pl.atR l i = []) := by unfold Pl.atR Hid; rw [if_neg (by omega)]
      rw [hx.out]
      clear hx hc
      go_enter Tryz.func206, Tryz.ntmps206
      go_wp2
      go_ret
      exact ⟨rfl, rfl⟩
  · have hx : Hid (Pl.atR l i = []) := by unfold Pl.atR Hid; rw [if_neg (by omega)]
    rw [hx.out]
    clear hx hc
    go_enter Tryz.func206, Tryz.ntmps206
    go_wp2
    go_ret
    exact ⟨rfl, rfl⟩

set_option maxRecDepth 100000 in
set_option maxHeartbeats 2000000 in
theorem forms_no (t : List UInt8) (w : World) (h1 : (t == Pl.kAdd) = false) (h2 : (t == Pl.kSub) = false) (h3 : (t == Pl.kMul) = false) (h4 : (t == Pl.kFlr) = false) (h5 : (t == Pl.kSel) = false) (h6 : (t == Pl.kLt) = false) (h7 : (t == Pl.kLe) = false) (h8 : (t == Pl.kEq) = false) (h9 : (t == Pl.kAnd) = false) (h10 : (t == Pl.kOr) = false) (h11 : (t == Pl.kNot) = false) :
    Calls Tryz.prog 210 #[.string ⟨t.toArray⟩] w fun e w' => e = .returned (.string ⟨#[]⟩) ∧ w' = w := by
  simp only [Pl.kAdd, Pl.kSub, Pl.kMul, Pl.kFlr, Pl.kSel, Pl.kLt, Pl.kLe, Pl.kEq, Pl.kAnd, Pl.kOr, Pl.kNot] at h1 h2 h3 h4 h5 h6 h7 h8 h9 h10 h11
  go_enter Tryz.func210, Tryz.ntmps210
  go_wp2
  go_ret
  exact ⟨rfl, rfl⟩
set_option maxRecDepth 100000 in
set_option maxHeartbeats 2000000 in
theorem forms_kAdd (w : World) :
    Calls Tryz.prog 210 #[.string ⟨Pl.kAdd.toArray⟩] w fun e w' => e = .returned (.string ⟨(Pl.formsR Pl.kAdd).toArray⟩) ∧ w' = w := by
  rw [show Pl.formsR Pl.kAdd = _ from rfl]
  unfold Pl.kAdd
  go_enter Tryz.func210, Tryz.ntmps210
  go_wp2
  go_ret
  exact ⟨rfl, rfl⟩
set_option maxRecDepth 100000 in
set_option maxHeartbeats 2000000 in
theorem forms_kSub (w : World) :
    Calls Tryz.prog 210 #[.string ⟨Pl.kSub.toArray⟩] w fun e w' => e = .returned (.string ⟨(Pl.formsR Pl.kSub).toArray⟩) ∧ w' = w := by
  rw [show Pl.formsR Pl.kSub = _ from rfl]
  unfold Pl.kSub
  go_enter Tryz.func210, Tryz.ntmps210
  go_wp2
  go_ret
  exact ⟨rfl, rfl⟩
set_option maxRecDepth 100000 in
set_option maxHeartbeats 2000000 in
theorem forms_kMul (w : World) :
    Calls Tryz.prog 210 #[.string ⟨Pl.kMul.toArray⟩] w fun e w' => e = .returned (.string ⟨(Pl.formsR Pl.kMul).toArray⟩) ∧ w' = w := by
  rw [show Pl.formsR Pl.kMul = _ from rfl]
  unfold Pl.kMul
  go_enter Tryz.func210, Tryz.ntmps210
  go_wp2
  go_ret
  exact ⟨rfl, rfl⟩
set_option maxRecDepth 100000 in
set_option maxHeartbeats 2000000 in
theorem forms_kFlr (w : World) :
    Calls Tryz.prog 210 #[.string ⟨Pl.kFlr.toArray⟩] w fun e w' => e = .returned (.string ⟨(Pl.formsR Pl.kFlr).toArray⟩) ∧ w' = w := by
  rw [show Pl.formsR Pl.kFlr = _ from rfl]
  unfold Pl.kFlr
  go_enter Tryz.func210, Tryz.ntmps210
  go_wp2
  go_ret
  exact ⟨rfl, rfl⟩
set_option maxRecDepth 100000 in
set_option maxHeartbeats 2000000 in
theorem forms_kSel (w : World) :
    Calls Tryz.prog 210 #[.string ⟨Pl.kSel.toArray⟩] w fun e w' => e = .returned (.string ⟨(Pl.formsR Pl.kSel).toArray⟩) ∧ w' = w := by
  rw [show Pl.formsR Pl.kSel = _ from rfl]
  unfold Pl.kSel
  go_enter Tryz.func210, Tryz.ntmps210
  go_wp2
  go_ret
  exact ⟨rfl, rfl⟩
set_option maxRecDepth 100000 in
set_option maxHeartbeats 2000000 in
theorem forms_kLt (w : World) :
    Calls Tryz.prog 210 #[.string ⟨Pl.kLt.toArray⟩] w fun e w' => e = .returned (.string ⟨(Pl.formsR Pl.kLt).toArray⟩) ∧ w' = w := by
  rw [show Pl.formsR Pl.kLt = _ from rfl]
  unfold Pl.kLt
  go_enter Tryz.func210, Tryz.ntmps210
  go_wp2
  go_ret
  exact ⟨rfl, rfl⟩
set_option maxRecDepth 100000 in
set_option maxHeartbeats 2000000 in
theorem forms_kLe (w : World) :
    Calls Tryz.prog 210 #[.string ⟨Pl.kLe.toArray⟩] w fun e w' => e = .returned (.string ⟨(Pl.formsR Pl.kLe).toArray⟩) ∧ w' = w := by
  rw [show Pl.formsR Pl.kLe = _ from rfl]
  unfold Pl.kLe
  go_enter Tryz.func210, Tryz.ntmps210
  go_wp2
  go_ret
  exact ⟨rfl, rfl⟩
set_option maxRecDepth 100000 in
set_option maxHeartbeats 2000000 in
theorem forms_kEq (w : World) :
    Calls Tryz.prog 210 #[.string ⟨Pl.kEq.toArray⟩] w fun e w' => e = .returned (.string ⟨(Pl.formsR Pl.kEq).toArray⟩) ∧ w' = w := by
  rw [show Pl.formsR Pl.kEq = _ from rfl]
  unfold Pl.kEq
  go_enter Tryz.func210, Tryz.ntmps210
  go_wp2
  go_ret
  exact ⟨rfl, rfl⟩
set_option maxRecDepth 100000 in
set_option maxHeartbeats 2000000 in
theorem forms_kAnd (w : World) :
    Calls Tryz.prog 210 #[.string ⟨Pl.kAnd.toArray⟩] w fun e w' => e = .returned (.string ⟨(Pl.formsR Pl.kAnd).toArray⟩) ∧ w' = w := by
  rw [show Pl.formsR Pl.kAnd = _ from rfl]
  unfold Pl.kAnd
  go_enter Tryz.func210, Tryz.ntmps210
  go_wp2
  go_ret
  exact ⟨rfl, rfl⟩
set_option maxRecDepth 100000 in
set_option maxHeartbeats 2000000 in
theorem forms_kOr (w : World) :
    Calls Tryz.prog 210 #[.string ⟨Pl.kOr.toArray⟩] w fun e w' => e = .returned (.string ⟨(Pl.formsR Pl.kOr).toArray⟩) ∧ w' = w := by
  rw [show Pl.formsR Pl.kOr = _ from rfl]
  unfold Pl.kOr
  go_enter Tryz.func210, Tryz.ntmps210
  go_wp2
  go_ret
  exact ⟨rfl, rfl⟩
set_option maxRecDepth 100000 in
set_option maxHeartbeats 2000000 in
theorem forms_kNot (w : World) :
    Calls Tryz.prog 210 #[.string ⟨Pl.kNot.toArray⟩] w fun e w' => e = .returned (.string ⟨(Pl.formsR Pl.kNot).toArray⟩) ∧ w' = w := by
  rw [show Pl.formsR Pl.kNot = _ from rfl]
  unfold Pl.kNot
  go_enter Tryz.func210, Tryz.ntmps210
  go_wp2
  go_ret
  exact ⟨rfl, rfl⟩
theorem forms_ref (t : List UInt8) (w : World) :
    Calls Tryz.prog 210 #[.string ⟨t.toArray⟩] w fun e w' => e = .returned (.string ⟨(Pl.formsR t).toArray⟩) ∧ w' = w := by
  by_cases h1 : t = Pl.kAdd
  · subst h1; exact forms_kAdd w
  by_cases h2 : t = Pl.kSub
  · subst h2; exact forms_kSub w
  by_cases h3 : t = Pl.kMul
  · subst h3; exact forms_kMul w
  by_cases h4 : t = Pl.kFlr
  · subst h4; exact forms_kFlr w
  by_cases h5 : t = Pl.kSel
  · subst h5; exact forms_kSel w
  by_cases h6 : t = Pl.kLt
  · subst h6; exact forms_kLt w
  by_cases h7 : t = Pl.kLe
  · subst h7; exact forms_kLe w
  by_cases h8 : t = Pl.kEq
  · subst h8; exact forms_kEq w
  by_cases h9 : t = Pl.kAnd
  · subst h9; exact forms_kAnd w
  by_cases h10 : t = Pl.kOr
  · subst h10; exact forms_kOr w
  by_cases h11 : t = Pl.kNot
  · subst h11; exact forms_kNot w
  have e : Pl.formsR t = [] := by
    rcases Pl.formsR_cases t with ⟨_, h | h⟩ | ⟨_, h⟩ | ⟨_, h⟩ | ⟨_, h⟩ | ⟨_, h | h | h⟩ | ⟨_, h | h⟩ | ⟨_, h⟩ | h <;> first | exact h | exact absurd h (by assumption)
  rw [e]
  exact forms_no t w (by simpa using h1) (by simpa using h2) (by simpa using h3) (by simpa using h4) (by simpa using h5) (by simpa using h6) (by simpa using h7) (by simpa using h8) (by simpa using h9) (by simpa using h10) (by simpa using h11)

set_option maxHeartbeats 1000000 in
theorem fits_A (names : List Pl.DeclM) (v : Value) (t : List UInt8) (w : World) (h : DeclsAt w v names) (hl : names.length ≤ 10000) (ht : t.length ≤ 6000) :
    Calls Tryz.prog 334 #[v, .int .u8 65, .string ⟨t.toArray⟩] w fun e w' => e = .returned (.bool (Pl.fitsR names 65 t)) ∧ ∃ n, w' = w.drewN n := by
  have hN := hide (RNumber_any t w (by unfold maxLen; omega))
  have hI := hide (is_ref names v t 105 118 w h hl)
  obtain ⟨ad, n, cap, rfl⟩ : ∃ ad n cap, v = .slice ad n cap := by obtain ⟨x, y, e, _⟩ := h; exact ⟨_, _, _, e⟩
  have hx : Pl.fitsR names 65 t = ((Pl.number t).2 || Pl.isOf names t 105 118) := by unfold Pl.fitsR; rw [if_pos rfl]
  rw [hx]
  clear hx h
  generalize Pl.number t = p at *
  obtain ⟨m, ok⟩ := p
  generalize Pl.isOf names t 105 118 = q at *
  simp only at hN ⊢
  cases ok
  all_goals
    go_enter Tryz.func334, Tryz.ntmps334
    go_wp2_with fail
    refine (unhide hN).mono ?_
    rintro e w1 ⟨rfl, hw1⟩
    rw [hw1]
    clear hw1 w1 hN
    go_wp2_with fail
    refine (unhide hI).mono ?_
    rintro e w1 ⟨rfl, k, hw1⟩
    rw [hw1]
    clear hw1 w1 hI
    go_wp2_with fail
    go_ret
    exact ⟨by simp, _, rfl⟩
set_option maxHeartbeats 1000000 in
theorem fits_F (names : List Pl.DeclM) (v : Value) (t : List UInt8) (w : World) (h : DeclsAt w v names) (hl : names.length ≤ 10000) :
    Calls Tryz.prog 334 #[v, .int .u8 70, .string ⟨t.toArray⟩] w fun e w' => e = .returned (.bool (Pl.fitsR names 70 t)) ∧ ∃ n, w' = w.drewN n := by
  have hI := hide (is_ref names v t 102 102 w h hl)
  obtain ⟨ad, n, cap, rfl⟩ : ∃ ad n cap, v = .slice ad n cap := by obtain ⟨x, y, e, _⟩ := h; exact ⟨_, _, _, e⟩
  have hx : Pl.fitsR names 70 t = Pl.isOf names t 102 102 := by unfold Pl.fitsR; rw [if_neg (by decide), if_pos rfl]
  rw [hx]
  clear hx h
  generalize Pl.isOf names t 102 102 = q at *
  go_enter Tryz.func334, Tryz.ntmps334
  go_wp2_with fail
  refine (unhide hI).mono ?_
  rintro e w1 ⟨rfl, k, hw1⟩
  rw [hw1]
  clear hw1 w1 hI
  go_wp2_with fail
  go_ret
  exact ⟨rfl, _, rfl⟩
set_option maxHeartbeats 1000000 in
theorem fits_K (names : List Pl.DeclM) (ad : Option Addr) (n cap : Nat) (t : List UInt8) (w : World) (ht : t.length ≤ 6000) :
    Calls Tryz.prog 334 #[.slice ad n cap, .int .u8 75, .string ⟨t.toArray⟩] w fun e w' => e = .returned (.bool (Pl.fitsR names 75 t)) ∧ ∃ n, w' = w.drewN n := by
  have hW := hide (within_any t (-1000) 1000 w ht)
  have hx : Pl.fitsR names 75 t = Pl.within t (-1000) 1000 := by unfold Pl.fitsR; rw [if_neg (by decide), if_neg (by decide), if_pos rfl]
  rw [hx]
  clear hx
  generalize Pl.within t (-1000) 1000 = q at *
  go_enter Tryz.func334, Tryz.ntmps334
  go_wp2_with fail
  refine (unhide hW).mono ?_
  rintro e w1 ⟨rfl, hw1⟩
  rw [hw1]
  clear hw1 w1 hW
  go_wp2_with fail
  go_ret
  exact ⟨rfl, 0, rfl⟩
set_option maxHeartbeats 1000000 in
theorem fits_D (names : List Pl.DeclM) (ad : Option Addr) (n cap : Nat) (t : List UInt8) (w : World) (ht : t.length ≤ 6000) :
    Calls Tryz.prog 334 #[.slice ad n cap, .int .u8 68, .string ⟨t.toArray⟩] w fun e w' => e = .returned (.bool (Pl.fitsR names 68 t)) ∧ ∃ n, w' = w.drewN n := by
  have hW := hide (within_any t 1 1000000 w ht)
  have hx : Pl.fitsR names 68 t = Pl.within t 1 1000000 := by unfold Pl.fitsR; rw [if_neg (by decide), if_neg (by decide), if_neg (by decide)]
  rw [hx]
  clear hx
  generalize Pl.within t 1 1000000 = q at *
  go_enter Tryz.func334, Tryz.ntmps334
  go_wp2_with fail
  refine (unhide hW).mono ?_
  rintro e w1 ⟨rfl, hw1⟩
  rw [hw1]
  clear hw1 w1 hW
  go_wp2_with fail
  go_ret
  exact ⟨rfl, 0, rfl⟩
theorem fits_ref (names : List Pl.DeclM) (v : Value) (c : UInt8) (t : List UInt8) (w : World) (h : DeclsAt w v names) (hl : names.length ≤ 10000) (ht : t.length ≤ 6000) (hc : c = 65 ∨ c = 70 ∨ c = 75 ∨ c = 68) :
    Calls Tryz.prog 334 #[v, .int .u8 c.toNat, .string ⟨t.toArray⟩] w fun e w' => e = .returned (.bool (Pl.fitsR names c t)) ∧ ∃ n, w' = w.drewN n := by
  obtain ⟨ad, n, cap, hv⟩ : ∃ ad n cap, v = .slice ad n cap := by obtain ⟨x, y, e, _⟩ := h; exact ⟨_, _, _, e⟩
  rcases hc with rfl | rfl | rfl | rfl
  · exact fits_A names v t w h hl ht
  · exact fits_F names v t w h hl
  · rw [hv]; exact fits_K names ad n cap t w ht
  · rw [hv]; exact fits_D names ad n cap t w ht

theorem DeclsAt.drewN {w : World} {v : Value} {l : List Pl.DeclM} (h : DeclsAt w v l) (n : Nat) : DeclsAt (w.drewN n) v l := h
theorem StrsAt.drewN {w : World} {v : Value} {l : List (List UInt8)} (h : StrsAt w v l) (n : Nat) : StrsAt (w.drewN n) v l := h
theorem atR_len (l : List (List UInt8)) (i : Nat) (h : ∀ t ∈ l, t.length ≤ 6000) : (Pl.atR l i).length ≤ 6000 := by
  unfold Pl.atR
  split
  · rename_i hc; rw [List.getD_eq_getElem?_getD, List.getElem?_eq_getElem hc.1]; exact h _ (List.getElem_mem _)
  · simp
def placeV : Option Nat → Int
  | none => -1
  | some p => p
theorem badR_hit (l : List (List UInt8)) (names : List Pl.DeclM) (i : Nat) (ws : List UInt8) (k : Nat) (hk : k < ws.length) (h : Pl.fitsR names ws[k] (Pl.atR l (i + k)) = true) : Pl.badR l names (i + k) (ws.drop k) = Pl.badR l names (i + (k + 1)) (ws.drop (k + 1)) := by
  rw [List.drop_eq_getElem_cons hk, Pl.badR, if_pos h]; rfl
theorem badR_miss (l : List (List UInt8)) (names : List Pl.DeclM) (i : Nat) (ws : List UInt8) (k : Nat) (hk : k < ws.length) (h : Pl.fitsR names ws[k] (Pl.atR l (i + k)) = false) : Pl.badR l names (i + k) (ws.drop k) = some (i + k) := by
  rw [List.drop_eq_getElem_cons hk, Pl.badR, if_neg (by simp [h])]

set_option maxRecDepth 100000 in
set_option maxHeartbeats 1000000 in
theorem bad_ref (l : List (List UInt8)) (vl : Value) (names : List Pl.DeclM) (vn : Value) (i : Nat) (ws : List UInt8) (w : World) (h : StrsAt w vl l) (hn : DeclsAt w vn names) (hi : i ≤ 10000) (hl : l.length ≤ 10000) (hnl : names.length ≤ 10000) (ht : ∀ t ∈ l, t.length ≤ 6000) (hw : ws.length ≤ 10) (hc : ∀ c ∈ ws, c = 65 ∨ c = 70 ∨ c = 75 ∨ c = 68) :
    Calls Tryz.prog 260 #[vl, vn, .int .i64 i, .string ⟨ws.toArray⟩] w fun e w' => e = .returned (.int .i64 (placeV (Pl.badR l names i ws))) ∧ ∃ n, w' = w.drewN n := by
  have hA := hide (fun m k (hk : k ≤ 100000) => at_ref l vl k (w.drewN m) (h.drewN m) hk hl)
  have hF := hide (fun m c k (hc : c = 65 ∨ c = 70 ∨ c = 75 ∨ c = 68) => fits_ref names vn c (Pl.atR l k) (w.drewN m) (hn.drewN m) hnl (atR_len l k ht) hc)
  have HC := hide hc
  obtain ⟨ad, cap, rfl⟩ := h.shape
  obtain ⟨adn, nn, capn, rfl⟩ : ∃ ad n cap, vn = .slice ad n cap := by obtain ⟨x, y, e, _⟩ := hn; exact ⟨_, _, _, e⟩
  clear h hn ht hc
  go_enter Tryz.func260, Tryz.ntmps260
  go_wp2
  go_loopw [9] (fun j wr => ∃ (k n : Nat), k ≤ ws.length ∧ j = .int .i64 k ∧ wr = w.drewN n ∧ Hid (Pl.badR l names (i + k) (ws.drop k) = Pl.badR l names i ws)) (fun j _ => ws.length - (intOf j).toNat)
  case atStart => exact ⟨0, 0, by omega, rfl, rfl, rfl⟩
  case round =>
    obtain ⟨k, n, hk, rfl, rfl, hr⟩ := hrel
    by_cases hlt : k < ws.length
    · have hb := bget ws k hlt
      have hA1 := hide (unhide hA n (i + k) (by omega))
      have hF1 := hide (unhide hF n ws[k] (i + k) (unhide HC _ (List.getElem_mem _)))
      cases hf : Pl.fitsR names ws[k] (Pl.atR l (i + k)) with
      | true =>
        have hr2 : Hid (Pl.badR l names (i + (k + 1)) (ws.drop (k + 1)) = Pl.badR l names i ws) := by have := hr.out; rw [badR_hit l names i ws k hlt hf] at this; exact this
        rw [hf] at hF1
        clear hr hf
        generalize Pl.atR l (i + k) = t at *
        generalize ws[k] = c at *
        rw [show (((i + k : Nat) : Int)) = (i : Int) + (k : Int) by omega] at hA1
        go_wp2_with fail
        refine (unhide hA1).mono ?_
        rintro e w1 ⟨rfl, hw1⟩
        rw [hw1]
        clear hw1 w1 hA1
        go_wp2_with fail
        refine (unhide hF1).mono ?_
        rintro e w1 ⟨rfl, m, hw1⟩
        rw [hw1, World.drewN_drewN]
        clear hw1 w1 hF1
        go_wp2_with fail
        go_roundw
        case rel => exact ⟨k + 1, _, by omega, by go_num, rfl, hr2.out⟩
        case measure => simp [intOf]; omega
      | false =>
        have hr2 : Hid (some (i + k) = Pl.badR l names i ws) := by have := hr.out; rw [badR_miss l names i ws k hlt hf] at this; exact this
        rw [hf] at hF1
        clear hr hf
        generalize Pl.atR l (i + k) = t at *
        generalize ws[k] = c at *
        rw [show (((i + k : Nat) : Int)) = (i : Int) + (k : Int) by omega] at hA1
        go_wp2_with fail
        refine (unhide hA1).mono ?_
        rintro e w1 ⟨rfl, hw1⟩
        rw [hw1]
        clear hw1 w1 hA1
        go_wp2_with fail
        refine (unhide hF1).mono ?_
        rintro e w1 ⟨rfl, m, hw1⟩
        rw [hw1, World.drewN_drewN]
        clear hw1 w1 hF1
        go_wp2_with fail
        go_ret
        exact ⟨ret_int (by rw [← hr2.out]; simp [placeV]), _, rfl⟩
    · have hr2 : Hid (none = Pl.badR l names i ws) := by have := hr.out; rw [List.drop_eq_nil_of_le (by omega), Pl.badR] at this; exact this
      clear hr
      go_wp2_with fail
      go_ret
      exact ⟨ret_int (by rw [← hr2.out]; rfl), _, rfl⟩
end Go.Proofs.YtfaljekgpnbmiaaGreat
