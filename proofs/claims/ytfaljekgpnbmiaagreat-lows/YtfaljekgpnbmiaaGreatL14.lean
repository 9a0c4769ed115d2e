/- Joined: Ref1 Ref2 PlainRLow. -/
import Derived.Test.YtfaljekgpnbmiaaGreatL13
/-
  Contracts of the reference's within, holds, find, fresh, is, count.
-/
namespace Go.Proofs.YtfaljekgpnbmiaaGreat
open Go.RowKit

/-- A slice of declarations that reads as l. -/
def DeclsAt (w : World) (v : Value) (l : List Pl.DeclM) : Prop :=
  ∃ ad cap, v = .slice ad l.length cap ∧ ∀ i, (hi : i < l.length) → ∃ g, ad = some ⟨g, 0, none⟩ ∧
    w.cell? ⟨g, i * 5, none⟩ = some (.string ⟨l[i].name.toArray⟩) ∧ w.cell? ⟨g, i * 5 + 1, none⟩ = some (.int .u8 l[i].kind) ∧ w.cell? ⟨g, i * 5 + 2, none⟩ = some (.int .i64 l[i].lo) ∧ w.cell? ⟨g, i * 5 + 3, none⟩ = some (.int .i64 l[i].hi) ∧ w.cell? ⟨g, i * 5 + 4, none⟩ = some (.int .i64 l[i].pos)
theorem decls_get {w : World} {ad : Option Addr} {n cap : Nat} {l : List Pl.DeclM} (h : DeclsAt w (.slice ad n cap) l) (i : Nat) (hi : i < l.length) : ∃ g, ad = some ⟨g, 0, none⟩ ∧
    w.cell? ⟨g, i * 5, none⟩ = some (.string ⟨l[i].name.toArray⟩) ∧ w.cell? ⟨g, i * 5 + 1, none⟩ = some (.int .u8 l[i].kind) ∧ w.cell? ⟨g, i * 5 + 2, none⟩ = some (.int .i64 l[i].lo) ∧ w.cell? ⟨g, i * 5 + 3, none⟩ = some (.int .i64 l[i].hi) ∧ w.cell? ⟨g, i * 5 + 4, none⟩ = some (.int .i64 l[i].pos) := by
  obtain ⟨_, _, he, hc⟩ := h
  simp only [Value.slice.injEq] at he
  obtain ⟨g, e1, e2⟩ := hc i hi
  exact ⟨g, he.1.trans e1, e2⟩

set_option maxHeartbeats 400000 in
theorem within_any (t : List UInt8) (lo hi : Int) (w : World) (hl : t.length ≤ 6000) :
    Calls Tryz.prog 200 #[.string ⟨t.toArray⟩, .int .i64 lo, .int .i64 hi] w fun e w' => e = .returned (.bool (Pl.within t lo hi)) ∧ w' = w := by
  have hN := RNumber_any t w (by unfold maxLen; omega)
  unfold Pl.within
  generalize Pl.number t = p at *
  obtain ⟨m, ok⟩ := p
  simp only at hN ⊢
  have hN' := hide hN
  clear hN
  cases ok
  · go_enter Tryz.func200, Tryz.ntmps200
    go_wp2_with fail
    refine (unhide hN').mono ?_
    rintro e w1 ⟨rfl, rfl⟩
    clear hN'
    go_wp2_with fail
    go_ret
    exact ⟨rfl, rfl⟩
  · cases h1 : decide (lo ≤ m) <;> cases h2 : decide (m ≤ hi)
    all_goals
      go_enter Tryz.func200, Tryz.ntmps200
      go_wp2_with fail
      refine (unhide hN').mono ?_
      rintro e w1 ⟨rfl, rfl⟩
      clear hN'
      go_wp2_with fail
      go_ret
      exact ⟨rfl, rfl⟩

set_option maxHeartbeats 1000000 in
theorem holds_ref (s u : List UInt8) (w : World) (hs : s.length ≤ 10000) (hu : u.length ≤ 10000) :
    Calls Tryz.prog 112 #[.string ⟨s.toArray⟩, .string ⟨u.toArray⟩] w fun e w' => e = .returned (.bool (Pl.holdsW s u)) ∧ w' = w := by
  have ha1 := ByteArray.mk_append_mk [32] u
  have ha2 := ByteArray.mk_append_mk ([32] ++ u) [32]
  have htl : ([32] ++ u ++ [32]).length = u.length + 2 := by simp
  unfold Pl.holdsW
  have htl1 : ([32] ++ u).length = u.length + 1 := by simp
  generalize htt : ([32] ++ u ++ [32] : List UInt8) = t at *
  generalize ([32] ++ u : List UInt8) = t1 at *
  have HT : Hid (t.length = u.length + 2) := htl
  have htb : t.length ≤ 10002 := by omega
  have htp : 2 ≤ t.length := by omega
  have ht1b : t1.length ≤ 10001 := by omega
  clear htt htl htl1
  go_enter Tryz.func112, Tryz.ntmps112
  go_wp2_with fail
  go_loop [6] (fun i => ∃ k : Nat, k ≤ s.length ∧ i = .int .i64 k ∧ Hid (Pl.holdsR (s.drop k) t = Pl.holdsR s t)) (fun i => s.length - (intOf i).toNat)
  case atStart => exact ⟨0, by omega, rfl, rfl⟩
  case round =>
    obtain ⟨k, hk, rfl, hr⟩ := hrel
    clear ha1 ha2
    by_cases hle : k + t.length ≤ s.length
    · have hst := Pl.holdsR_step s t k (by omega)
      have hx : (ByteArray.mk s.toArray).extract k (k + t.length) = ⟨((s.drop k).take t.length).toArray⟩ := by rw [bext, Nat.add_sub_cancel_left]
      cases he : ((s.drop k).take t.length == t)
      · have hn : Hid (Pl.holdsR (s.drop (k + 1)) t = Pl.holdsR s t) := by have := hr.out; rw [hst, he, Bool.false_or] at this; exact this
        generalize (s.drop k).take t.length = tk at *
        clear hr hst
        go_wp2_with fail
        go_round
        case rel => exact ⟨k + 1, by omega, by go_num, hn.out⟩
        case measure => simp [intOf]; omega
      · have hn : Hid (Pl.holdsR s t = true) := by have := hr.out; rw [hst, he, Bool.true_or] at this; exact this.symm
        generalize (s.drop k).take t.length = tk at *
        clear hr hst
        go_wp2_with fail
        go_ret
        exact ⟨ret_bool hn.out.symm, rfl⟩
    · have hn : Hid (Pl.holdsR s t = false) := by rw [← hr.out]; exact Pl.holdsR_short _ _ (by rw [List.length_drop]; omega)
      clear hr
      go_wp2_with fail
      go_ret
      exact ⟨ret_bool hn.out.symm, rfl⟩

set_option maxHeartbeats 1000000 in
theorem find_ref (l : List Pl.DeclM) (v : Value) (t : List UInt8) (w : World) (h : DeclsAt w v l) (hl : l.length ≤ 10000) :
    Calls Tryz.prog 155 #[v, .string ⟨t.toArray⟩] w fun e w' => e = .returned (.int .i64 (Pl.findD l t)) ∧ w' = w := by
  obtain ⟨ad, cap, rfl, hc⟩ := h
  go_enter Tryz.func155, Tryz.ntmps155
  go_wp2_with fail
  go_loop [5] (fun i => ∃ k : Nat, k ≤ l.length ∧ i = .int .i64 k ∧ Hid (Pl.findFrom (l.drop k) t k = Pl.findD l t)) (fun i => l.length - (intOf i).toNat)
  case atStart => exact ⟨0, by omega, rfl, rfl⟩
  case round =>
    obtain ⟨k, hk, rfl, hr⟩ := hrel
    by_cases hlt : k < l.length
    · obtain ⟨g, rfl, hn, _⟩ := hc k hlt
      clear hc
      by_cases he : l[k].name = t
      · have hx : Hid (Pl.findD l t = k) := by have := hr.out; rw [Pl.findFrom_hit _ _ _ hlt he] at this; exact this.symm
        rw [he] at hn
        clear hr he
        go_wp2_with fail
        go_ret
        exact ⟨ret_int hx.out.symm, rfl⟩
      · have hx : Hid (Pl.findFrom (l.drop (k + 1)) t ((k : Int) + 1) = Pl.findD l t) := by have := hr.out; rw [Pl.findFrom_miss _ _ _ hlt he] at this; exact this
        generalize l[k].name = u at *
        have hb : (u == t) = false := by simpa using he
        clear hr he
        go_wp2_with fail
        go_round
        case rel => exact ⟨k + 1, by omega, by go_num, hx.out⟩
        case measure => simp [intOf]; omega
    · have hx : Hid (Pl.findD l t = -1) := by rw [← hr.out]; exact Pl.findFrom_end _ _ _ (by omega) _
      clear hc hr
      go_wp2_with fail
      go_ret
      exact ⟨ret_int hx.out.symm, rfl⟩

set_option maxHeartbeats 1000000 in
theorem count_ref (l : List Pl.DeclM) (v : Value) (c : Nat) (w : World) (h : DeclsAt w v l) (hl : l.length ≤ 10000) :
    Calls Tryz.prog 113 #[v, .int .u8 c] w fun e w' => e = .returned (.int .i64 (Pl.countD l c)) ∧ w' = w := by
  obtain ⟨ad, cap, rfl, hc⟩ := h
  go_enter Tryz.func113, Tryz.ntmps113
  go_wp2_with fail
  go_loop [5, 6] (fun n i => ∃ k m : Nat, k ≤ l.length ∧ m ≤ k ∧ i = .int .i64 k ∧ n = .int .i64 m ∧ Hid (m + Pl.countD (l.drop k) c = Pl.countD l c)) (fun _ i => l.length - (intOf i).toNat)
  case atStart => exact ⟨0, 0, by omega, by omega, rfl, rfl, by simp [Hid]⟩
  case round =>
    obtain ⟨k, m, hk, hm, rfl, rfl, hr⟩ := hrel
    by_cases hlt : k < l.length
    · obtain ⟨g, rfl, _, hkd, _⟩ := hc k hlt
      have hst := Pl.countD_step l k hlt c
      clear hc
      generalize l[k].kind = kd at *
      by_cases he : kd = c
      · have hx : Hid (m + 1 + Pl.countD (l.drop (k + 1)) c = Pl.countD l c) := by have := hr.out; rw [hst, if_pos he] at this; simp only [Hid]; omega
        subst he
        clear hr hst
        go_wp2_with fail
        go_round
        case rel => exact ⟨k + 1, m + 1, by omega, by omega, by go_num, by go_num, hx.out⟩
        case measure => simp [intOf]; omega
      · have hx : Hid (m + Pl.countD (l.drop (k + 1)) c = Pl.countD l c) := by have := hr.out; rw [hst, if_neg he] at this; simp only [Hid]; omega
        have hb : ((kd : Int) == c) = false := by rw [beq_eq_false_iff_ne]; omega
        clear hr hst he
        go_wp2_with fail
        go_round
        case rel => exact ⟨k + 1, m, by omega, by omega, by go_num, rfl, hx.out⟩
        case measure => simp [intOf]; omega
    · have hx : Hid (m = Pl.countD l c) := by have := hr.out; rw [List.drop_eq_nil_of_le (by omega)] at this; simpa [Pl.countD, Hid] using this
      clear hc hr
      go_wp2_with fail
      go_ret
      exact ⟨ret_int (by rw [hx.out]), rfl⟩
end Go.Proofs.YtfaljekgpnbmiaaGreat

/-
  Contracts of the reference's Name, fresh, is, cond, bands.
-/
namespace Go.Proofs.YtfaljekgpnbmiaaGreat
open Go.RowKit

def Pl.kwText : List UInt8 := [32, 105, 110, 32, 108, 101, 116, 32, 115, 101, 116, 32, 111, 117, 116, 32, 97, 100, 100, 32, 115, 117, 98, 32, 109, 117, 108, 32, 109, 105, 110, 32, 109, 97, 120, 32, 105, 102, 32, 100, 105, 118, 32, 116, 97, 98, 32, 108, 116, 32, 108, 101, 32, 101, 113, 32, 97, 110, 100, 32, 111, 114, 32, 110, 111, 116, 32, 100, 111, 119, 110, 32, 117, 112, 32, 122, 101, 114, 111, 32, 110, 101, 97, 114, 32, 102, 108, 114, 32, 115, 101, 108, 32]
def Pl.okAt (i : Nat) (c : UInt8) : Bool := Pl.isLet c || (Pl.isDig c && decide (i ≠ 0))
/-- All bytes from number i on may stand in a name. -/
def Pl.namedFrom : Nat → List UInt8 → Bool
  | _, [] => true
  | i, c :: r => Pl.okAt i c && Pl.namedFrom (i + 1) r
def Pl.rName (t : List UInt8) : Bool := !t.isEmpty && decide (t.length ≤ 8) && Pl.namedFrom 0 t && !Pl.holdsW Pl.kwText t
theorem named_step (t : List UInt8) (k : Nat) (h : k < t.length) : Pl.namedFrom k (t.drop k) = (Pl.okAt k t[k] && Pl.namedFrom (k + 1) (t.drop (k + 1))) := by
  rw [List.drop_eq_getElem_cons h, Pl.namedFrom]
theorem named_end (t : List UInt8) (k : Nat) (h : t.length ≤ k) : Pl.namedFrom k (t.drop k) = true := by
  rw [List.drop_eq_nil_of_le h]; rfl

theorem okAt_no {k : Nat} {c : UInt8} (h : Pl.okAt k c = false) : (decide (97 ≤ (c.toNat : Int)) = false ∨ decide (97 ≤ (c.toNat : Int)) = true ∧ decide ((c.toNat : Int) ≤ 122) = false) ∧ (Pl.isDig c = false ∨ Pl.isDig c = true ∧ ((k : Int) == 0) = true) := by
  unfold Pl.okAt at h
  rw [Bool.or_eq_false_iff] at h
  obtain ⟨h1, h2⟩ := h
  refine ⟨?_, ?_⟩
  · simp [Pl.isLet] at h1 ⊢; omega
  · cases hd : Pl.isDig c
    · exact .inl rfl
    · right; rw [hd] at h2; simp at h2; exact ⟨rfl, by simp [h2]⟩
theorem okAt_yes {k : Nat} {c : UInt8} (h : Pl.okAt k c = true) : (decide (97 ≤ (c.toNat : Int)) = true ∧ decide ((c.toNat : Int) ≤ 122) = true) ∨ ((decide (97 ≤ (c.toNat : Int)) = false ∨ decide (97 ≤ (c.toNat : Int)) = true ∧ decide ((c.toNat : Int) ≤ 122) = false) ∧ Pl.isDig c = true ∧ ((k : Int) == 0) = false) := by
  unfold Pl.okAt at h
  by_cases hl : 97 ≤ (c.toNat : Int) ∧ (c.toNat : Int) ≤ 122
  · left; simp; omega
  · right
    have hl' : Pl.isLet c = false := by simp [Pl.isLet]; omega
    rw [hl', Bool.false_or, Bool.and_eq_true] at h
    refine ⟨by simp; omega, h.1, ?_⟩
    have := h.2
    simp at this
    simp [this]

set_option maxRecDepth 100000 in
set_option maxHeartbeats 1000000 in
theorem Name_loop (t : List UInt8) (w : World) (h0 : 0 < t.length) (he : t.isEmpty = false) (h8 : decide ((8 : Int) < t.length) = false) :
    Calls Tryz.prog 259 #[.string ⟨t.toArray⟩] w fun e w' => e = .returned (.bool (Pl.namedFrom 0 t && !Pl.holdsW Pl.kwText t)) ∧ w' = w := by
  have h8' : t.length ≤ 8 := by simp at h8; omega
  go_enter Tryz.func259, Tryz.ntmps259
  go_wp2_with fail
  go_loop [3] (fun i => ∃ k : Nat, k ≤ t.length ∧ i = .int .i64 k ∧ Hid (Pl.namedFrom k (t.drop k) = Pl.namedFrom 0 t)) (fun i => t.length - (intOf i).toNat)
  case atStart => exact ⟨0, by omega, rfl, rfl⟩
  case round =>
    obtain ⟨k, hk, rfl, hr⟩ := hrel
    by_cases hlt : k < t.length
    · have hb := bget t k hlt
      have hst := named_step t k hlt
      generalize t[k] = c at *
      cases ho : Pl.okAt k c
      · have hx : Hid (Pl.namedFrom 0 t = false) := by have := hr.out; rw [hst, ho, Bool.false_and] at this; exact this.symm
        obtain ⟨hc1, hc2⟩ := okAt_no ho
        clear hr hst ho
        rcases hc1 with hc1 | ⟨hc1, hc1'⟩ <;> rcases hc2 with hc2 | ⟨hc2, hk0⟩
        all_goals
          go_wp2_with (go_at_call 205; refine (digit_any _ _).mono ?_; rintro e w' ⟨rfl, rfl⟩)
          go_ret
          exact ⟨ret_bool (by rw [hx.out, Bool.false_and]), rfl⟩
      · have hx : Hid (Pl.namedFrom (k + 1) (t.drop (k + 1)) = Pl.namedFrom 0 t) := by have := hr.out; rw [hst, ho, Bool.true_and] at this; exact this
        have hcs := okAt_yes ho
        clear hr hst ho
        rcases hcs with ⟨hc1, hc1'⟩ | ⟨hc1 | ⟨hc1, hc1'⟩, hc2, hk0⟩
        all_goals
          go_wp2_with (go_at_call 205; refine (digit_any _ _).mono ?_; rintro e w' ⟨rfl, rfl⟩)
          go_round
          case rel => exact ⟨k + 1, by omega, by go_num, hx.out⟩
          case measure => simp [intOf]; omega
    · have hx : Hid (Pl.namedFrom 0 t = true) := by rw [← hr.out]; exact named_end t k (by omega)
      have hH := hide (holds_ref Pl.kwText t w (by decide) (by omega))
      clear hr
      go_wp2_with fail
      refine (unhide hH).mono ?_
      rintro e w1 ⟨rfl, rfl⟩
      clear hH
      go_wp2_with fail
      go_ret
      exact ⟨ret_bool (by rw [hx.out, Bool.true_and]), rfl⟩

set_option maxHeartbeats 400000 in
theorem Name_long (t : List UInt8) (w : World) (he : t.isEmpty = false) (h8 : decide ((8 : Int) < t.length) = true) :
    Calls Tryz.prog 259 #[.string ⟨t.toArray⟩] w fun e w' => e = .returned (.bool false) ∧ w' = w := by
  go_enter Tryz.func259, Tryz.ntmps259
  go_wp2_with fail
  go_ret
  exact ⟨rfl, rfl⟩
set_option maxHeartbeats 400000 in
theorem Name_nil (w : World) :
    Calls Tryz.prog 259 #[.string ⟨[].toArray⟩] w fun e w' => e = .returned (.bool false) ∧ w' = w := by
  go_enter Tryz.func259, Tryz.ntmps259
  go_wp2_with fail
  go_ret
  exact ⟨rfl, rfl⟩
theorem Name_ref (t : List UInt8) (w : World) :
    Calls Tryz.prog 259 #[.string ⟨t.toArray⟩] w fun e w' => e = .returned (.bool (Pl.rName t)) ∧ w' = w := by
  cases t with
  | nil => exact Name_nil w
  | cons c r =>
    unfold Pl.rName
    rw [show (!(c :: r).isEmpty) = true from rfl, Bool.true_and]
    by_cases h8 : (c :: r).length ≤ 8
    · rw [decide_eq_true h8, Bool.true_and]
      exact Name_loop (c :: r) w (by simp) rfl (by simp at h8 ⊢; omega)
    · rw [decide_eq_false h8, Bool.false_and, Bool.false_and]
      exact Name_long (c :: r) w rfl (by simp at h8 ⊢; omega)

def Pl.fresh (l : List Pl.DeclM) (t : List UInt8) : Bool := Pl.rName t && decide (Pl.findD l t < 0)
set_option maxHeartbeats 400000 in
theorem fresh_ref (l : List Pl.DeclM) (v : Value) (t : List UInt8) (w : World) (h : DeclsAt w v l) (hl : l.length ≤ 10000) :
    Calls Tryz.prog 202 #[v, .string ⟨t.toArray⟩] w fun e w' => e = .returned (.bool (Pl.fresh l t)) ∧ w' = w := by
  have hN := hide (Name_ref t w)
  have hF := hide (find_ref l v t w h hl)
  obtain ⟨ad, n, cap, rfl⟩ : ∃ ad n cap, v = .slice ad n cap := by obtain ⟨x, y, e, _⟩ := h; exact ⟨_, _, _, e⟩
  unfold Pl.fresh
  clear h
  generalize Pl.findD l t = i at *
  cases hr : Pl.rName t <;> cases hi : decide (i < 0)
  all_goals
    rw [hr] at hN
    go_enter Tryz.func202, Tryz.ntmps202
    go_wp2_with fail
    refine (unhide hN).mono ?_
    rintro e w1 ⟨rfl, hw1⟩
    rw [hw1]
    clear hw1 w1 hN
    go_wp2_with fail
    refine (unhide hF).mono ?_
    rintro e w1 ⟨rfl, hw1⟩
    rw [hw1]
    clear hw1 w1 hF
    go_wp2_with fail
    go_ret
    exact ⟨rfl, rfl⟩

def Pl.kindAt (l : List Pl.DeclM) (t : List UInt8) : Option Nat := if Pl.findD l t < 0 then none else (l[(Pl.findD l t).toNat]?).map (·.kind)
def Pl.isOf (l : List Pl.DeclM) (t : List UInt8) (a b : Nat) : Bool := match Pl.kindAt l t with | none => false | some k => decide (k = a) || decide (k = b)
set_option maxHeartbeats 1000000 in
theorem is_ref (l : List Pl.DeclM) (v : Value) (t : List UInt8) (a b : Nat) (w : World) (h : DeclsAt w v l) (hl : l.length ≤ 10000) :
    Calls Tryz.prog 258 #[v, .string ⟨t.toArray⟩, .int .u8 a, .int .u8 b] w fun e w' => e = .returned (.bool (Pl.isOf l t a b)) ∧ ∃ n, w' = w.drewN n := by
  have hF := hide (find_ref l v t w h hl)
  have hbd := Pl.findFrom_bd l t 0
  obtain ⟨ad, cap, rfl, hc⟩ := h
  unfold Pl.isOf Pl.kindAt
  rw [show Pl.findFrom l t 0 = Pl.findD l t from rfl] at hbd
  generalize Pl.findD l t = i at *
  rcases hbd with rfl | ⟨h0, h1⟩
  · rw [if_pos (by omega)]
    clear hc
    go_enter Tryz.func258, Tryz.ntmps258
    go_wp2_with fail
    refine (unhide hF).mono ?_
    rintro e w1 ⟨rfl, hw1⟩
    rw [hw1]
    clear hw1 w1 hF
    go_wp2_with fail
    go_ret
    exact ⟨rfl, 0, rfl⟩
  · obtain ⟨k, rfl⟩ := Int.eq_ofNat_of_zero_le h0
    have hk : k < l.length := by omega
    rw [if_neg (by omega), Int.toNat_natCast, List.getElem?_eq_getElem hk, Option.map_some]
    obtain ⟨g, rfl, _, hkd, _⟩ := hc k hk
    clear hc
    simp only
    generalize l[k].kind = kd at *
    have h0d : decide ((0 : Int) ≤ k) = true := by simp
    by_cases ha : kd = a
    · have hb1 : ((kd : Int) == a) = true := by rw [beq_iff_eq]; omega
      have hres : (decide (kd = a) || decide (kd = b)) = true := by simp [ha]
      rw [hres]
      clear ha
      go_enter Tryz.func258, Tryz.ntmps258
      go_wp2_with fail
      refine (unhide hF).mono ?_
      rintro e w1 ⟨rfl, hw1⟩
      rw [hw1]
      clear hw1 w1 hF
      go_wp2_with fail
      go_ret
      exact ⟨rfl, 0, rfl⟩
    · have hb1 : ((kd : Int) == a) = false := by rw [beq_eq_false_iff_ne]; omega
      cases hbb : decide (kd = b)
      · have hb2 : ((kd : Int) == b) = false := by simp at hbb; rw [beq_eq_false_iff_ne]; omega
        have hres : (decide (kd = a) || false) = false := by simp [ha]
        rw [hres]
        clear ha hbb
        go_enter Tryz.func258, Tryz.ntmps258
        go_wp2_with fail
        refine (unhide hF).mono ?_
        rintro e w1 ⟨rfl, hw1⟩
        rw [hw1]
        clear hw1 w1 hF
        go_wp2_with fail
        go_ret
        exact ⟨rfl, 0, rfl⟩
      · have hb2 : ((kd : Int) == b) = true := by simp at hbb; rw [beq_iff_eq]; omega
        rw [Bool.or_true]
        clear ha hbb
        go_enter Tryz.func258, Tryz.ntmps258
        go_wp2_with fail
        refine (unhide hF).mono ?_
        rintro e w1 ⟨rfl, hw1⟩
        rw [hw1]
        clear hw1 w1 hF
        go_wp2_with fail
        go_ret
        exact ⟨rfl, 0, rfl⟩
end Go.Proofs.YtfaljekgpnbmiaaGreat

/-
  The reference's reading of the low form, as plain functions.
-/
namespace Go.Proofs.YtfaljekgpnbmiaaGreat.Pl

def atR (l : List (List UInt8)) (i : Nat) : List UInt8 := if i < l.length ∧ i < 600 then l.getD i [] else []
def formsR (op : List UInt8) : List UInt8 :=
  if op = kAdd ∨ op = kSub then [65, 65, 118] else if op = kMul then [75, 65, 118] else if op = kFlr then [65, 68, 118] else if op = kSel then [70, 65, 65, 118]
  else if op = kLt ∨ op = kLe ∨ op = kEq then [65, 65, 102] else if op = kAnd ∨ op = kOr then [70, 70, 102] else if op = kNot then [70, 102] else []
def fitsR (names : List DeclM) (c : UInt8) (t : List UInt8) : Bool :=
  if c = 65 then (number t).2 || isOf names t 105 118
  else if c = 70 then isOf names t 102 102
  else if c = 75 then within t (-1000) 1000
  else within t 1 1000000
def badR (l : List (List UInt8)) (names : List DeclM) : Nat → List UInt8 → Option Nat
  | _, [] => none
  | i, c :: r => if fitsR names c (atR l i) = true then badR l names (i + 1) r else some i
def inputD (l : List (List UInt8)) (names : List DeclM) (i : Nat) : DeclM ⊕ Nat :=
  if fresh names (atR l (i + 1)) = false then .inr (i + 1)
  else if (number (atR l (i + 2))).2 = false then .inr (i + 2)
  else if (number (atR l (i + 3))).2 = false ∨ (number (atR l (i + 3))).1 < (number (atR l (i + 2))).1 then .inr (i + 3)
  else .inl ⟨atR l (i + 1), 105, (number (atR l (i + 2))).1, (number (atR l (i + 3))).1, i⟩
def setD (l : List (List UInt8)) (names : List DeclM) (i : Nat) : DeclM ⊕ Nat :=
  if fresh names (atR l (i + 1)) = false then .inr (i + 1)
  else if formsR (atR l (i + 2)) = [] then .inr (i + 2)
  else match badR l names (i + 3) ((formsR (atR l (i + 2))).dropLast) with
    | some p => .inr p
    | none => .inl ⟨atR l (i + 1), ((formsR (atR l (i + 2))).getLastD 0).toNat, 0, 0, (i : Int) + 2⟩
def outD (l : List (List UInt8)) (names : List DeclM) (i : Nat) : DeclM ⊕ Nat :=
  if fresh names (atR l (i + 1)) = false then .inr (i + 1)
  else match badR l names (i + 2) [65] with
    | some p => .inr p
    | none => .inl ⟨atR l (i + 1), 111, 0, 0, (i : Int) + 2⟩
def declaredD (l : List (List UInt8)) (names : List DeclM) (i : Nat) : DeclM ⊕ Nat :=
  if atR l i = kIn ∧ names.length = countD names 105 + countD names 111 ∧ countD names 111 = 0 ∧ countD names 105 < 4 then inputD l names i
  else if atR l i = kSet ∧ 0 < countD names 105 ∧ countD names 111 = 0 ∧ names.length < countD names 105 + countD names 111 + 80 then setD l names i
  else if atR l i = kOut ∧ 0 < countD names 105 ∧ countD names 111 < 4 then outD l names i
  else .inr i
def longD (l : List (List UInt8)) (d : DeclM) : Nat :=
  if d.kind = 105 then 4 else if d.kind = 111 then 3 else 2 + (formsR (l.getD d.pos.toNat [])).length
def lowD (l : List (List UInt8)) : Nat → List DeclM → Nat → List DeclM ⊕ Nat
  | 0, _, i => .inr i
  | f + 1, names, i =>
    if i < l.length then
      match declaredD l names i with
      | .inr p => .inr p
      | .inl d => lowD l f (names ++ [d]) (i + longD l d)
    else if countD names 111 = 0 then .inr i else .inl names

theorem formsR_cases (t : List UInt8) : (formsR t = [65, 65, 118] ∧ (t = kAdd ∨ t = kSub)) ∨ (formsR t = [75, 65, 118] ∧ t = kMul) ∨ (formsR t = [65, 68, 118] ∧ t = kFlr) ∨ (formsR t = [70, 65, 65, 118] ∧ t = kSel) ∨ (formsR t = [65, 65, 102] ∧ (t = kLt ∨ t = kLe ∨ t = kEq)) ∨ (formsR t = [70, 70, 102] ∧ (t = kAnd ∨ t = kOr)) ∨ (formsR t = [70, 102] ∧ t = kNot) ∨ formsR t = [] := by
  unfold formsR
  split
  · exact .inl ⟨rfl, ‹_›⟩
  split
  · exact .inr (.inl ⟨rfl, ‹_›⟩)
  split
  · exact .inr (.inr (.inl ⟨rfl, ‹_›⟩))
  split
  · exact .inr (.inr (.inr (.inl ⟨rfl, ‹_›⟩)))
  split
  · exact .inr (.inr (.inr (.inr (.inl ⟨rfl, ‹_›⟩))))
  split
  · exact .inr (.inr (.inr (.inr (.inr (.inl ⟨rfl, ‹_›⟩)))))
  split
  · exact .inr (.inr (.inr (.inr (.inr (.inr (.inl ⟨rfl, ‹_›⟩))))))
  · exact .inr (.inr (.inr (.inr (.inr (.inr (.inr rfl))))))
theorem formsR_len (t : List UInt8) : (formsR t).length ≤ 4 := by
  rcases formsR_cases t with ⟨h, _⟩ | ⟨h, _⟩ | ⟨h, _⟩ | ⟨h, _⟩ | ⟨h, _⟩ | ⟨h, _⟩ | ⟨h, _⟩ | h <;> rw [h] <;> decide

end Go.Proofs.YtfaljekgpnbmiaaGreat.Pl
