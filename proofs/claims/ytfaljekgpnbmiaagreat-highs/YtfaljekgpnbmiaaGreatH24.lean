/- Joined: PlainTree. -/
import Derived.Test.YtfaljekgpnbmiaaGreatH23
/-
  Expressions of the high form as trees: how tokens tell one, how the program lays one down, what it comes to.
-/
namespace Go.Proofs.YtfaljekgpnbmiaaGreat.Pl
open Go.RowKit
set_option linter.unusedSimpArgs false
set_option linter.unusedVariables false

def twoV (op a b : Int) : Int :=
  if op = 2 then wrap64 (a + b) else if op = 3 then wrap64 (a - b) else if op = 5 then lesser a b else if op = 6 then greater a b else if holdsB op a b then 1 else 0
def twoB (op a b : Int) : Int := if op = 2 ∨ op = 3 then wrap64 (a + b) else if op = 5 ∨ op = 6 then greater a b else 0
def capB (b : Int) : Int := if b < 1000000000000001 then b else 1000000000000001
def tabB (a : Int) : List (Int × Int) → Int → Int
  | [], s => s
  | p :: l, s => tabB a l (capB (s + absv p.2 * (a + absv p.1)))
def Sm (v : Int) : Prop := -1000000000000000 ≤ v ∧ v ≤ 1000000000000000
/-- An expression or condition by what it comes to when the names come to K (a condition: 1 or 0): its value V; the program's bound B, and whether one within it is above the limit; the reference's bound R; whether all within it may be reckoned. -/
structure Ex where
  V : List Int → Int
  B : List Int → Int
  big : List Int → Bool
  R : List Int → Int
  fine : List Int → Prop
def exV (K : List Int) (e : Ex) : Int := e.V K
def exB (K : List Int) (e : Ex) : Int := e.B K
def exBig (K : List Int) (e : Ex) : Bool := e.big K
def refB (K : List Int) (e : Ex) : Int := e.R K
def Fine (K : List Int) (e : Ex) : Prop := e.fine K
def Ex.num (k : Int) : Ex := ⟨fun _ => k, fun _ => absW k, fun _ => over (absW k), fun _ => absv k, fun _ => True⟩
def Ex.var (j : Nat) : Ex := ⟨fun K => K.getD j 0, fun K => K.getD j 0, fun _ => false, fun K => K.getD j 0, fun _ => True⟩
def Ex.two (op : Int) (a b : Ex) : Ex :=
  ⟨fun K => twoV op (exV K a) (exV K b), fun K => twoB op (exB K a) (exB K b), fun K => exBig K a || exBig K b || over (twoB op (exB K a) (exB K b)),
   fun K => if op = 2 ∨ op = 3 ∨ refB K a = 1000000000000001 ∨ refB K b = 1000000000000001 then capB (refB K a + refB K b) else most (refB K a) (refB K b), fun K => Fine K a ∧ Fine K b ∧ Sm (exV K a) ∧ Sm (exV K b)⟩
def Ex.mul (k : Int) (a : Ex) : Ex :=
  ⟨fun K => wrap64 (k * exV K a), fun K => wrap64 (absW k * exB K a), fun K => exBig K a || over (wrap64 (absW k * exB K a)),
   fun K => if refB K a = 1000000000000001 then 1000000000000001 else capB (absv k * refB K a), fun K => Fine K a ∧ Sm (exV K a)⟩
def Ex.cho (c a b : Ex) : Ex :=
  ⟨fun K => if exV K c ≠ 0 then exV K a else exV K b, fun K => greater (exB K a) (exB K b), fun K => exBig K c || exBig K a || exBig K b || over (greater (exB K a) (exB K b)),
   fun K => if refB K c = 1000000000000001 then 1000000000000001 else most (refB K a) (refB K b), fun K => Fine K c ∧ Fine K a ∧ Fine K b⟩
def Ex.quo (op : Int) (a : Ex) (d : Int) : Ex :=
  ⟨fun K => quotW op (exV K a) d, fun K => exB K a, fun K => exBig K a || over (exB K a), fun K => refB K a, fun K => Fine K a ∧ Sm (exV K a)⟩
def Ex.tab (a : Ex) (l : List (Int × Int)) : Ex :=
  ⟨fun K => bandSumW (exV K a) l, fun K => bandBoundW (exB K a) l, fun K => exBig K a || over (bandBoundW (exB K a) l),
   fun K => if refB K a = 1000000000000001 then 1000000000000001 else tabB (refB K a) l 0, fun K => Fine K a ∧ Sm (exV K a)⟩
def Ex.neg (a : Ex) : Ex :=
  ⟨fun K => if exV K a = 0 then 1 else 0, fun _ => 0, fun K => exBig K a || over 0, fun K => refB K a, fun K => Fine K a⟩
theorem exV_two (K : List Int) (op : Int) (a b : Ex) : exV K (.two op a b) = twoV op (exV K a) (exV K b) := rfl
theorem exV_mul (K : List Int) (k : Int) (a : Ex) : exV K (.mul k a) = wrap64 (k * exV K a) := rfl
theorem exV_cho (K : List Int) (c a b : Ex) : exV K (.cho c a b) = if exV K c ≠ 0 then exV K a else exV K b := rfl
theorem exV_quo (K : List Int) (op : Int) (a : Ex) (d : Int) : exV K (.quo op a d) = quotW op (exV K a) d := rfl
theorem exV_tab (K : List Int) (a : Ex) (l : List (Int × Int)) : exV K (.tab a l) = bandSumW (exV K a) l := rfl
theorem exV_neg (K : List Int) (a : Ex) : exV K (.neg a) = if exV K a = 0 then 1 else 0 := rfl
theorem exB_two (K : List Int) (op : Int) (a b : Ex) : exB K (.two op a b) = twoB op (exB K a) (exB K b) := rfl
theorem exB_mul (K : List Int) (k : Int) (a : Ex) : exB K (.mul k a) = wrap64 (absW k * exB K a) := rfl
theorem exB_cho (K : List Int) (c a b : Ex) : exB K (.cho c a b) = greater (exB K a) (exB K b) := rfl
theorem exB_quo (K : List Int) (op : Int) (a : Ex) (d : Int) : exB K (.quo op a d) = exB K a := rfl
theorem exB_tab (K : List Int) (a : Ex) (l : List (Int × Int)) : exB K (.tab a l) = bandBoundW (exB K a) l := rfl
theorem exBig_num (K : List Int) (k : Int) : exBig K (.num k) = over (absW k) := rfl
theorem exBig_two (K : List Int) (op : Int) (a b : Ex) : exBig K (.two op a b) = (exBig K a || exBig K b || over (twoB op (exB K a) (exB K b))) := rfl
theorem exBig_mul (K : List Int) (k : Int) (a : Ex) : exBig K (.mul k a) = (exBig K a || over (wrap64 (absW k * exB K a))) := rfl
theorem exBig_cho (K : List Int) (c a b : Ex) : exBig K (.cho c a b) = (exBig K c || exBig K a || exBig K b || over (greater (exB K a) (exB K b))) := rfl
theorem exBig_quo (K : List Int) (op : Int) (a : Ex) (d : Int) : exBig K (.quo op a d) = (exBig K a || over (exB K a)) := rfl
theorem exBig_tab (K : List Int) (a : Ex) (l : List (Int × Int)) : exBig K (.tab a l) = (exBig K a || over (bandBoundW (exB K a) l)) := rfl
theorem exBig_neg (K : List Int) (a : Ex) : exBig K (.neg a) = (exBig K a || over 0) := rfl
theorem refB_two (K : List Int) (op : Int) (a b : Ex) : refB K (.two op a b) = if op = 2 ∨ op = 3 ∨ refB K a = 1000000000000001 ∨ refB K b = 1000000000000001 then capB (refB K a + refB K b) else most (refB K a) (refB K b) := rfl
theorem refB_mul (K : List Int) (k : Int) (a : Ex) : refB K (.mul k a) = if refB K a = 1000000000000001 then 1000000000000001 else capB (absv k * refB K a) := rfl
theorem refB_cho (K : List Int) (c a b : Ex) : refB K (.cho c a b) = if refB K c = 1000000000000001 then 1000000000000001 else most (refB K a) (refB K b) := rfl
theorem refB_tab (K : List Int) (a : Ex) (l : List (Int × Int)) : refB K (.tab a l) = if refB K a = 1000000000000001 then 1000000000000001 else tabB (refB K a) l 0 := rfl
def twoOf (t : List UInt8) : Option Int := if t = kAdd then some 2 else if t = kSub then some 3 else if t = kMin then some 5 else if t = kMax then some 6 else none
def cmpOf (t : List UInt8) : Option Int := if t = kLt then some 13 else if t = kLe then some 14 else if t = kEq then some 15 else none
def joinOf (t : List UInt8) : Option Int := if t = kAnd then some 16 else if t = kOr then some 17 else none
/-- The bands that begin at token p. -/
def BandsAt (toks : List (List UInt8)) : Nat → List (Int × Int) → Prop
  | _, [] => True
  | p, x :: l => number (atR toks p) = (x.1, true) ∧ number (atR toks (p + 1)) = (x.2, true) ∧ -1000 ≤ x.2 ∧ x.2 ≤ 1000 ∧ BandsAt toks (p + 2) l
/-- The expression (or condition) that begins at token i, and the token behind it. -/
def Par (toks : List (List UInt8)) (names : List DeclM) (x1 : Bool) (x2 : Nat) (x3 : Ex) (x4 : Nat) : Prop :=
  ∀ motive : Bool → Nat → Ex → Nat → Prop, (∀ (i : Nat) (h : (number (atR toks i)).2 = true), motive false i (.num (number (atR toks i)).1) (i + 1)) → (∀ (i k : Nat) (h : rName (atR toks i) = true) (hn : (number (atR toks i)).2 = false) (hk : findD names (atR toks i) = k) (hl : k < names.length) (hi : (names[k]).kind = 105 ∨ (names[k]).kind = 118), motive false i (.var k) (i + 1)) → (∀ (i p q : Nat) (op : Int) (a b : Ex) (h : twoOf (atR toks i) = some op) (ha : motive false (i + 1) a p) (hb : motive false p b q), motive false i (.two op a b) q) → (∀ (i p : Nat) (a : Ex) (h : atR toks i = kMul) (hk : within (atR toks (i + 1)) (-1000) 1000 = true) (ha : motive false (i + 2) a p), motive false i (.mul (number (atR toks (i + 1))).1 a) p) → (∀ (i p q z : Nat) (c a b : Ex) (h : atR toks i = kIf) (hc : motive true (i + 1) c p) (ha : motive false p a q) (hb : motive false q b z), motive false i (.cho c a b) z) → (∀ (i p : Nat) (op : Int) (a : Ex) (h : atR toks i = kDiv) (ho : roundingOf (atR toks (i + 1)) = some op) (ha : motive false (i + 2) a p) (hd : within (atR toks p) 1 1000000 = true), motive false i (.quo op a (number (atR toks p)).1) (p + 1)) → (∀ (i p : Nat) (a : Ex) (l : List (Int × Int)) (h : atR toks i = kTab) (ha : motive false (i + 1) a p) (hn : number (atR toks p) = ((l.length : Int), true)) (h1 : 1 ≤ l.length) (h6 : l.length ≤ 6) (hb : BandsAt toks (p + 1) l), motive false i (.tab a l) (p + 1 + 2 * l.length)) → (∀ (i p q : Nat) (op : Int) (a b : Ex) (h : cmpOf (atR toks i) = some op) (ha : motive false (i + 1) a p) (hb : motive false p b q), motive true i (.two op a b) q) → (∀ (i p q : Nat) (op : Int) (a b : Ex) (h : joinOf (atR toks i) = some op) (ha : motive true (i + 1) a p) (hb : motive true p b q), motive true i (.two op a b) q) → (∀ (i p : Nat) (a : Ex) (h : atR toks i = kNot) (ha : motive true (i + 1) a p), motive true i (.neg a) p) → motive x1 x2 x3 x4
theorem Par.num {toks : List (List UInt8)} {names : List DeclM} (i : Nat) (h : (number (atR toks i)).2 = true) : Par toks names false i (.num (number (atR toks i)).1) (i + 1) := fun motive m1 m2 m3 m4 m5 m6 m7 m8 m9 m10 => m1 i h
theorem Par.var {toks : List (List UInt8)} {names : List DeclM} (i k : Nat) (h : rName (atR toks i) = true) (hn : (number (atR toks i)).2 = false) (hk : findD names (atR toks i) = k) (hl : k < names.length) (hi : (names[k]).kind = 105 ∨ (names[k]).kind = 118) : Par toks names false i (.var k) (i + 1) := fun motive m1 m2 m3 m4 m5 m6 m7 m8 m9 m10 => m2 i k h hn hk hl hi
theorem Par.two {toks : List (List UInt8)} {names : List DeclM} (i p q : Nat) (op : Int) (a b : Ex) (h : twoOf (atR toks i) = some op) (ha : Par toks names false (i + 1) a p) (hb : Par toks names false p b q) : Par toks names false i (.two op a b) q := fun motive m1 m2 m3 m4 m5 m6 m7 m8 m9 m10 => m3 i p q op a b h (ha motive m1 m2 m3 m4 m5 m6 m7 m8 m9 m10) (hb motive m1 m2 m3 m4 m5 m6 m7 m8 m9 m10)
theorem Par.mul {toks : List (List UInt8)} {names : List DeclM} (i p : Nat) (a : Ex) (h : atR toks i = kMul) (hk : within (atR toks (i + 1)) (-1000) 1000 = true) (ha : Par toks names false (i + 2) a p) : Par toks names false i (.mul (number (atR toks (i + 1))).1 a) p := fun motive m1 m2 m3 m4 m5 m6 m7 m8 m9 m10 => m4 i p a h hk (ha motive m1 m2 m3 m4 m5 m6 m7 m8 m9 m10)
theorem Par.cho {toks : List (List UInt8)} {names : List DeclM} (i p q z : Nat) (c a b : Ex) (h : atR toks i = kIf) (hc : Par toks names true (i + 1) c p) (ha : Par toks names false p a q) (hb : Par toks names false q b z) : Par toks names false i (.cho c a b) z := fun motive m1 m2 m3 m4 m5 m6 m7 m8 m9 m10 => m5 i p q z c a b h (hc motive m1 m2 m3 m4 m5 m6 m7 m8 m9 m10) (ha motive m1 m2 m3 m4 m5 m6 m7 m8 m9 m10) (hb motive m1 m2 m3 m4 m5 m6 m7 m8 m9 m10)
theorem Par.quo {toks : List (List UInt8)} {names : List DeclM} (i p : Nat) (op : Int) (a : Ex) (h : atR toks i = kDiv) (ho : roundingOf (atR toks (i + 1)) = some op) (ha : Par toks names false (i + 2) a p) (hd : within (atR toks p) 1 1000000 = true) : Par toks names false i (.quo op a (number (atR toks p)).1) (p + 1) := fun motive m1 m2 m3 m4 m5 m6 m7 m8 m9 m10 => m6 i p op a h ho (ha motive m1 m2 m3 m4 m5 m6 m7 m8 m9 m10) hd
theorem Par.tab {toks : List (List UInt8)} {names : List DeclM} (i p : Nat) (a : Ex) (l : List (Int × Int)) (h : atR toks i = kTab) (ha : Par toks names false (i + 1) a p) (hn : number (atR toks p) = ((l.length : Int), true)) (h1 : 1 ≤ l.length) (h6 : l.length ≤ 6) (hb : BandsAt toks (p + 1) l) : Par toks names false i (.tab a l) (p + 1 + 2 * l.length) := fun motive m1 m2 m3 m4 m5 m6 m7 m8 m9 m10 => m7 i p a l h (ha motive m1 m2 m3 m4 m5 m6 m7 m8 m9 m10) hn h1 h6 hb
theorem Par.cmp {toks : List (List UInt8)} {names : List DeclM} (i p q : Nat) (op : Int) (a b : Ex) (h : cmpOf (atR toks i) = some op) (ha : Par toks names false (i + 1) a p) (hb : Par toks names false p b q) : Par toks names true i (.two op a b) q := fun motive m1 m2 m3 m4 m5 m6 m7 m8 m9 m10 => m8 i p q op a b h (ha motive m1 m2 m3 m4 m5 m6 m7 m8 m9 m10) (hb motive m1 m2 m3 m4 m5 m6 m7 m8 m9 m10)
theorem Par.join {toks : List (List UInt8)} {names : List DeclM} (i p q : Nat) (op : Int) (a b : Ex) (h : joinOf (atR toks i) = some op) (ha : Par toks names true (i + 1) a p) (hb : Par toks names true p b q) : Par toks names true i (.two op a b) q := fun motive m1 m2 m3 m4 m5 m6 m7 m8 m9 m10 => m9 i p q op a b h (ha motive m1 m2 m3 m4 m5 m6 m7 m8 m9 m10) (hb motive m1 m2 m3 m4 m5 m6 m7 m8 m9 m10)
theorem Par.neg {toks : List (List UInt8)} {names : List DeclM} (i p : Nat) (a : Ex) (h : atR toks i = kNot) (ha : Par toks names true (i + 1) a p) : Par toks names true i (.neg a) p := fun motive m1 m2 m3 m4 m5 m6 m7 m8 m9 m10 => m10 i p a h (ha motive m1 m2 m3 m4 m5 m6 m7 m8 m9 m10)
theorem Par.ind {toks : List (List UInt8)} {names : List DeclM} {motive : ∀ (x1 : Bool) (x2 : Nat) (x3 : Ex) (x4 : Nat), Par toks names x1 x2 x3 x4 → Prop}
    (num : ∀ (i : Nat) (h : (number (atR toks i)).2 = true), motive false i (.num (number (atR toks i)).1) (i + 1) (Par.num i h))
    (var : ∀ (i k : Nat) (h : rName (atR toks i) = true) (hn : (number (atR toks i)).2 = false) (hk : findD names (atR toks i) = k) (hl : k < names.length) (hi : (names[k]).kind = 105 ∨ (names[k]).kind = 118), motive false i (.var k) (i + 1) (Par.var i k h hn hk hl hi))
    (two : ∀ (i p q : Nat) (op : Int) (a b : Ex) (h : twoOf (atR toks i) = some op) (ha : Par toks names false (i + 1) a p) (hb : Par toks names false p b q), motive false (i + 1) a p ha → motive false p b q hb → motive false i (.two op a b) q (Par.two i p q op a b h ha hb))
    (mul : ∀ (i p : Nat) (a : Ex) (h : atR toks i = kMul) (hk : within (atR toks (i + 1)) (-1000) 1000 = true) (ha : Par toks names false (i + 2) a p), motive false (i + 2) a p ha → motive false i (.mul (number (atR toks (i + 1))).1 a) p (Par.mul i p a h hk ha))
    (cho : ∀ (i p q z : Nat) (c a b : Ex) (h : atR toks i = kIf) (hc : Par toks names true (i + 1) c p) (ha : Par toks names false p a q) (hb : Par toks names false q b z), motive true (i + 1) c p hc → motive false p a q ha → motive false q b z hb → motive false i (.cho c a b) z (Par.cho i p q z c a b h hc ha hb))
    (quo : ∀ (i p : Nat) (op : Int) (a : Ex) (h : atR toks i = kDiv) (ho : roundingOf (atR toks (i + 1)) = some op) (ha : Par toks names false (i + 2) a p) (hd : within (atR toks p) 1 1000000 = true), motive false (i + 2) a p ha → motive false i (.quo op a (number (atR toks p)).1) (p + 1) (Par.quo i p op a h ho ha hd))
    (tab : ∀ (i p : Nat) (a : Ex) (l : List (Int × Int)) (h : atR toks i = kTab) (ha : Par toks names false (i + 1) a p) (hn : number (atR toks p) = ((l.length : Int), true)) (h1 : 1 ≤ l.length) (h6 : l.length ≤ 6) (hb : BandsAt toks (p + 1) l), motive false (i + 1) a p ha → motive false i (.tab a l) (p + 1 + 2 * l.length) (Par.tab i p a l h ha hn h1 h6 hb))
    (cmp : ∀ (i p q : Nat) (op : Int) (a b : Ex) (h : cmpOf (atR toks i) = some op) (ha : Par toks names false (i + 1) a p) (hb : Par toks names false p b q), motive false (i + 1) a p ha → motive false p b q hb → motive true i (.two op a b) q (Par.cmp i p q op a b h ha hb))
    (join : ∀ (i p q : Nat) (op : Int) (a b : Ex) (h : joinOf (atR toks i) = some op) (ha : Par toks names true (i + 1) a p) (hb : Par toks names true p b q), motive true (i + 1) a p ha → motive true p b q hb → motive true i (.two op a b) q (Par.join i p q op a b h ha hb))
    (neg : ∀ (i p : Nat) (a : Ex) (h : atR toks i = kNot) (ha : Par toks names true (i + 1) a p), motive true (i + 1) a p ha → motive true i (.neg a) p (Par.neg i p a h ha))
    {x1 : Bool} {x2 : Nat} {x3 : Ex} {x4 : Nat} (t : Par toks names x1 x2 x3 x4) : motive x1 x2 x3 x4 t := by
  have key : ∃ h : Par toks names x1 x2 x3 x4, motive x1 x2 x3 x4 h := by
    refine t (fun x1 x2 x3 x4 => ∃ h : Par toks names x1 x2 x3 x4, motive x1 x2 x3 x4 h) ?_ ?_ ?_ ?_ ?_ ?_ ?_ ?_ ?_ ?_
    · intro i h
      exact ⟨Par.num i h, num i h⟩
    · intro i k h hn hk hl hi
      exact ⟨Par.var i k h hn hk hl hi, var i k h hn hk hl hi⟩
    · intro i p q op a b h ha hb
      obtain ⟨ha, hai⟩ := ha
      obtain ⟨hb, hbi⟩ := hb
      exact ⟨Par.two i p q op a b h ha hb, two i p q op a b h ha hb hai hbi⟩
    · intro i p a h hk ha
      obtain ⟨ha, hai⟩ := ha
      exact ⟨Par.mul i p a h hk ha, mul i p a h hk ha hai⟩
    · intro i p q z c a b h hc ha hb
      obtain ⟨hc, hci⟩ := hc
      obtain ⟨ha, hai⟩ := ha
      obtain ⟨hb, hbi⟩ := hb
      exact ⟨Par.cho i p q z c a b h hc ha hb, cho i p q z c a b h hc ha hb hci hai hbi⟩
    · intro i p op a h ho ha hd
      obtain ⟨ha, hai⟩ := ha
      exact ⟨Par.quo i p op a h ho ha hd, quo i p op a h ho ha hd hai⟩
    · intro i p a l h ha hn h1 h6 hb
      obtain ⟨ha, hai⟩ := ha
      exact ⟨Par.tab i p a l h ha hn h1 h6 hb, tab i p a l h ha hn h1 h6 hb hai⟩
    · intro i p q op a b h ha hb
      obtain ⟨ha, hai⟩ := ha
      obtain ⟨hb, hbi⟩ := hb
      exact ⟨Par.cmp i p q op a b h ha hb, cmp i p q op a b h ha hb hai hbi⟩
    · intro i p q op a b h ha hb
      obtain ⟨ha, hai⟩ := ha
      obtain ⟨hb, hbi⟩ := hb
      exact ⟨Par.join i p q op a b h ha hb, join i p q op a b h ha hb hai hbi⟩
    · intro i p a h ha
      obtain ⟨ha, hai⟩ := ha
      exact ⟨Par.neg i p a h ha, neg i p a h ha hai⟩
  obtain ⟨_, k⟩ := key
  exact k
/-- The program lays an expression down behind the nodes N: its number, and what is laid. -/
def Laid (es : List (List UInt8 × Int × Int)) (x1 : List NodeM) (x2 : Ex) (x3 : Int) (x4 : List NodeM) : Prop :=
  ∀ motive : List NodeM → Ex → Int → List NodeM → Prop, (∀ (N : List NodeM) (k : Int) (h : -1000000000 ≤ k ∧ k ≤ 1000000000), motive N (.num k) N.length [⟨0, 0, 0, 0, k, []⟩]) → (∀ (N : List NodeM) (j : Nat) (hj : j < es.length) (h0 : es[j].2.1 = 0), motive N (.var j) es[j].2.2 []) → (∀ (N m m' : List NodeM) (op x y : Int) (a b : Ex) (ho : op = 2 ∨ op = 3 ∨ op = 5 ∨ op = 6 ∨ op = 13 ∨ op = 14 ∨ op = 15 ∨ op = 16 ∨ op = 17) (ha : motive N a x m) (hb : motive (N ++ m) b y m'), motive N (.two op a b) (N ++ m ++ m').length (m ++ m' ++ [⟨op, x, y, 0, 0, []⟩])) → (∀ (N m : List NodeM) (k x : Int) (a : Ex) (hk : -1000 ≤ k ∧ k ≤ 1000) (ha : motive N a x m), motive N (.mul k a) (N ++ m).length (m ++ [⟨4, x, 0, 0, k, []⟩])) → (∀ (N m m' m'' : List NodeM) (x y z : Int) (c a b : Ex) (hc : motive N c x m) (ha : motive (N ++ m) a y m') (hb : motive (N ++ m ++ m') b z m''), motive N (.cho c a b) (N ++ m ++ m' ++ m'').length (m ++ m' ++ m'' ++ [⟨7, x, y, z, 0, []⟩])) → (∀ (N m : List NodeM) (op x d : Int) (a : Ex) (ho : op = 8 ∨ op = 9 ∨ op = 10 ∨ op = 11) (hd : 1 ≤ d ∧ d ≤ 1000000) (ha : motive N a x m), motive N (.quo op a d) (N ++ m).length (m ++ [⟨op, x, 0, 0, d, []⟩])) → (∀ (N m : List NodeM) (x : Int) (a : Ex) (l : List (Int × Int)) (h6 : l.length ≤ 6) (hl : ∀ p ∈ l, -1000000000 ≤ p.1 ∧ p.1 ≤ 1000000000 ∧ -1000 ≤ p.2 ∧ p.2 ≤ 1000) (ha : motive N a x m), motive N (.tab a l) (N ++ m).length (m ++ [⟨12, x, 0, 0, 0, l⟩])) → (∀ (N m : List NodeM) (x : Int) (a : Ex) (ha : motive N a x m), motive N (.neg a) (N ++ m).length (m ++ [⟨18, x, 0, 0, 0, []⟩])) → motive x1 x2 x3 x4
theorem Laid.num {es : List (List UInt8 × Int × Int)} (N : List NodeM) (k : Int) (h : -1000000000 ≤ k ∧ k ≤ 1000000000) : Laid es N (.num k) N.length [⟨0, 0, 0, 0, k, []⟩] := fun motive m1 m2 m3 m4 m5 m6 m7 m8 => m1 N k h
theorem Laid.var {es : List (List UInt8 × Int × Int)} (N : List NodeM) (j : Nat) (hj : j < es.length) (h0 : es[j].2.1 = 0) : Laid es N (.var j) es[j].2.2 [] := fun motive m1 m2 m3 m4 m5 m6 m7 m8 => m2 N j hj h0
theorem Laid.two {es : List (List UInt8 × Int × Int)} (N m m' : List NodeM) (op x y : Int) (a b : Ex) (ho : op = 2 ∨ op = 3 ∨ op = 5 ∨ op = 6 ∨ op = 13 ∨ op = 14 ∨ op = 15 ∨ op = 16 ∨ op = 17) (ha : Laid es N a x m) (hb : Laid es (N ++ m) b y m') : Laid es N (.two op a b) (N ++ m ++ m').length (m ++ m' ++ [⟨op, x, y, 0, 0, []⟩]) := fun motive m1 m2 m3 m4 m5 m6 m7 m8 => m3 N m m' op x y a b ho (ha motive m1 m2 m3 m4 m5 m6 m7 m8) (hb motive m1 m2 m3 m4 m5 m6 m7 m8)
theorem Laid.mul {es : List (List UInt8 × Int × Int)} (N m : List NodeM) (k x : Int) (a : Ex) (hk : -1000 ≤ k ∧ k ≤ 1000) (ha : Laid es N a x m) : Laid es N (.mul k a) (N ++ m).length (m ++ [⟨4, x, 0, 0, k, []⟩]) := fun motive m1 m2 m3 m4 m5 m6 m7 m8 => m4 N m k x a hk (ha motive m1 m2 m3 m4 m5 m6 m7 m8)
theorem Laid.cho {es : List (List UInt8 × Int × Int)} (N m m' m'' : List NodeM) (x y z : Int) (c a b : Ex) (hc : Laid es N c x m) (ha : Laid es (N ++ m) a y m') (hb : Laid es (N ++ m ++ m') b z m'') : Laid es N (.cho c a b) (N ++ m ++ m' ++ m'').length (m ++ m' ++ m'' ++ [⟨7, x, y, z, 0, []⟩]) := fun motive m1 m2 m3 m4 m5 m6 m7 m8 => m5 N m m' m'' x y z c a b (hc motive m1 m2 m3 m4 m5 m6 m7 m8) (ha motive m1 m2 m3 m4 m5 m6 m7 m8) (hb motive m1 m2 m3 m4 m5 m6 m7 m8)
theorem Laid.quo {es : List (List UInt8 × Int × Int)} (N m : List NodeM) (op x d : Int) (a : Ex) (ho : op = 8 ∨ op = 9 ∨ op = 10 ∨ op = 11) (hd : 1 ≤ d ∧ d ≤ 1000000) (ha : Laid es N a x m) : Laid es N (.quo op a d) (N ++ m).length (m ++ [⟨op, x, 0, 0, d, []⟩]) := fun motive m1 m2 m3 m4 m5 m6 m7 m8 => m6 N m op x d a ho hd (ha motive m1 m2 m3 m4 m5 m6 m7 m8)
theorem Laid.tab {es : List (List UInt8 × Int × Int)} (N m : List NodeM) (x : Int) (a : Ex) (l : List (Int × Int)) (h6 : l.length ≤ 6) (hl : ∀ p ∈ l, -1000000000 ≤ p.1 ∧ p.1 ≤ 1000000000 ∧ -1000 ≤ p.2 ∧ p.2 ≤ 1000) (ha : Laid es N a x m) : Laid es N (.tab a l) (N ++ m).length (m ++ [⟨12, x, 0, 0, 0, l⟩]) := fun motive m1 m2 m3 m4 m5 m6 m7 m8 => m7 N m x a l h6 hl (ha motive m1 m2 m3 m4 m5 m6 m7 m8)
theorem Laid.neg {es : List (List UInt8 × Int × Int)} (N m : List NodeM) (x : Int) (a : Ex) (ha : Laid es N a x m) : Laid es N (.neg a) (N ++ m).length (m ++ [⟨18, x, 0, 0, 0, []⟩]) := fun motive m1 m2 m3 m4 m5 m6 m7 m8 => m8 N m x a (ha motive m1 m2 m3 m4 m5 m6 m7 m8)
theorem Laid.ind {es : List (List UInt8 × Int × Int)} {motive : ∀ (x1 : List NodeM) (x2 : Ex) (x3 : Int) (x4 : List NodeM), Laid es x1 x2 x3 x4 → Prop}
    (num : ∀ (N : List NodeM) (k : Int) (h : -1000000000 ≤ k ∧ k ≤ 1000000000), motive N (.num k) N.length [⟨0, 0, 0, 0, k, []⟩] (Laid.num N k h))
    (var : ∀ (N : List NodeM) (j : Nat) (hj : j < es.length) (h0 : es[j].2.1 = 0), motive N (.var j) es[j].2.2 [] (Laid.var N j hj h0))
    (two : ∀ (N m m' : List NodeM) (op x y : Int) (a b : Ex) (ho : op = 2 ∨ op = 3 ∨ op = 5 ∨ op = 6 ∨ op = 13 ∨ op = 14 ∨ op = 15 ∨ op = 16 ∨ op = 17) (ha : Laid es N a x m) (hb : Laid es (N ++ m) b y m'), motive N a x m ha → motive (N ++ m) b y m' hb → motive N (.two op a b) (N ++ m ++ m').length (m ++ m' ++ [⟨op, x, y, 0, 0, []⟩]) (Laid.two N m m' op x y a b ho ha hb))
    (mul : ∀ (N m : List NodeM) (k x : Int) (a : Ex) (hk : -1000 ≤ k ∧ k ≤ 1000) (ha : Laid es N a x m), motive N a x m ha → motive N (.mul k a) (N ++ m).length (m ++ [⟨4, x, 0, 0, k, []⟩]) (Laid.mul N m k x a hk ha))
    (cho : ∀ (N m m' m'' : List NodeM) (x y z : Int) (c a b : Ex) (hc : Laid es N c x m) (ha : Laid es (N ++ m) a y m') (hb : Laid es (N ++ m ++ m') b z m''), motive N c x m hc → motive (N ++ m) a y m' ha → motive (N ++ m ++ m') b z m'' hb → motive N (.cho c a b) (N ++ m ++ m' ++ m'').length (m ++ m' ++ m'' ++ [⟨7, x, y, z, 0, []⟩]) (Laid.cho N m m' m'' x y z c a b hc ha hb))
    (quo : ∀ (N m : List NodeM) (op x d : Int) (a : Ex) (ho : op = 8 ∨ op = 9 ∨ op = 10 ∨ op = 11) (hd : 1 ≤ d ∧ d ≤ 1000000) (ha : Laid es N a x m), motive N a x m ha → motive N (.quo op a d) (N ++ m).length (m ++ [⟨op, x, 0, 0, d, []⟩]) (Laid.quo N m op x d a ho hd ha))
    (tab : ∀ (N m : List NodeM) (x : Int) (a : Ex) (l : List (Int × Int)) (h6 : l.length ≤ 6) (hl : ∀ p ∈ l, -1000000000 ≤ p.1 ∧ p.1 ≤ 1000000000 ∧ -1000 ≤ p.2 ∧ p.2 ≤ 1000) (ha : Laid es N a x m), motive N a x m ha → motive N (.tab a l) (N ++ m).length (m ++ [⟨12, x, 0, 0, 0, l⟩]) (Laid.tab N m x a l h6 hl ha))
    (neg : ∀ (N m : List NodeM) (x : Int) (a : Ex) (ha : Laid es N a x m), motive N a x m ha → motive N (.neg a) (N ++ m).length (m ++ [⟨18, x, 0, 0, 0, []⟩]) (Laid.neg N m x a ha))
    {x1 : List NodeM} {x2 : Ex} {x3 : Int} {x4 : List NodeM} (t : Laid es x1 x2 x3 x4) : motive x1 x2 x3 x4 t := by
  have key : ∃ h : Laid es x1 x2 x3 x4, motive x1 x2 x3 x4 h := by
    refine t (fun x1 x2 x3 x4 => ∃ h : Laid es x1 x2 x3 x4, motive x1 x2 x3 x4 h) ?_ ?_ ?_ ?_ ?_ ?_ ?_ ?_
    · intro N k h
      exact ⟨Laid.num N k h, num N k h⟩
    · intro N j hj h0
      exact ⟨Laid.var N j hj h0, var N j hj h0⟩
    · intro N m m' op x y a b ho ha hb
      obtain ⟨ha, hai⟩ := ha
      obtain ⟨hb, hbi⟩ := hb
      exact ⟨Laid.two N m m' op x y a b ho ha hb, two N m m' op x y a b ho ha hb hai hbi⟩
    · intro N m k x a hk ha
      obtain ⟨ha, hai⟩ := ha
      exact ⟨Laid.mul N m k x a hk ha, mul N m k x a hk ha hai⟩
    · intro N m m' m'' x y z c a b hc ha hb
      obtain ⟨hc, hci⟩ := hc
      obtain ⟨ha, hai⟩ := ha
      obtain ⟨hb, hbi⟩ := hb
      exact ⟨Laid.cho N m m' m'' x y z c a b hc ha hb, cho N m m' m'' x y z c a b hc ha hb hci hai hbi⟩
    · intro N m op x d a ho hd ha
      obtain ⟨ha, hai⟩ := ha
      exact ⟨Laid.quo N m op x d a ho hd ha, quo N m op x d a ho hd ha hai⟩
    · intro N m x a l h6 hl ha
      obtain ⟨ha, hai⟩ := ha
      exact ⟨Laid.tab N m x a l h6 hl ha, tab N m x a l h6 hl ha hai⟩
    · intro N m x a ha
      obtain ⟨ha, hai⟩ := ha
      exact ⟨Laid.neg N m x a ha, neg N m x a ha hai⟩
  obtain ⟨_, k⟩ := key
  exact k

/-! The pile of what is wanted. -/
structure StH where
  pos : Nat
  pile : List UInt8
  names : List DeclM
  last : Int
  name : List UInt8
  beg : Nat
def yesD (b : Bool) : List UInt8 := if b = true then [45] else []
def headsD (names : List DeclM) (t : List UInt8) : List UInt8 :=
  if t = kIn ∧ countD names 118 = 0 ∧ countD names 111 = 0 ∧ countD names 105 < 4 then [72, 73, 98, 97, 105]
  else if t = kLet ∧ 0 < countD names 105 ∧ countD names 111 = 0 ∧ countD names 118 < 16 then [72, 86, 69, 108]
  else if t = kOut ∧ 0 < countD names 105 ∧ countD names 111 < 4 then [72, 79, 69, 111]
  else []
def exprD (names : List DeclM) (t : List UInt8) : List UInt8 :=
  if t = kAdd ∨ t = kSub ∨ t = kMin ∨ t = kMax then [69, 69]
  else if t = kMul then [69, 75] else if t = kIf then [69, 69, 67] else if t = kDiv then [68, 69, 77] else if t = kTab then [78, 69]
  else yesD ((number t).2 || isOf names t 105 118)
def condD (t : List UInt8) : List UInt8 :=
  if t = kLt ∨ t = kLe ∨ t = kEq then [69, 69] else if t = kAnd ∨ t = kOr then [67, 67] else if t = kNot then [67] else []
def bandsD : Nat → List UInt8
  | 0 => []
  | n + 1 => bandsD n ++ [82, 84]
def roundText : List UInt8 := [32] ++ kDown ++ [32] ++ kUp ++ [32] ++ kZero ++ [32] ++ kNear ++ [32]
def leadsD (names : List DeclM) (last : Int) (c : UInt8) (t : List UInt8) : List UInt8 :=
  if c = 72 then headsD names t
  else if c = 69 then exprD names t
  else if c = 67 then condD t
  else if c = 78 then (if within t 1 6 = true then bandsD (number t).1.toNat else [])
  else if c = 105 ∨ c = 108 ∨ c = 111 then yesD (fresh names t)
  else if c = 97 then yesD (within t (-1000000000) 1000000000)
  else if c = 98 ∨ c = 84 then yesD (within t last 1000000000)
  else if c = 77 then yesD (holdsW roundText t)
  else if c = 68 then yesD (within t 1 1000000)
  else if c = 75 ∨ c = 82 then yesD (within t (-1000) 1000)
  else []
def lastD (last : Int) (c : UInt8) (t : List UInt8) : Int := if c = 97 then (number t).1 else if c = 84 then (number t).1 + 1 else if c = 78 then -1000000000 else last
abbrev isNew (c : UInt8) : Prop := c = 105 ∨ c = 108 ∨ c = 111
def declD (toks : List (List UInt8)) (nm : List UInt8) (bg : Nat) (c : UInt8) : DeclM :=
  ⟨nm, if c = 79 then 111 else if c = 73 then 105 else 118, if c = 73 then (number (toks.getD bg [])).1 else 0, if c = 73 then (number (toks.getD (bg + 1) [])).1 else 0, bg⟩
abbrev isEnd (c : UInt8) : Prop := c = 86 ∨ c = 79 ∨ c = 73
def nextD (st : StH) (P : List UInt8) (c : UInt8) (t s : List UInt8) : StH :=
  ⟨st.pos + 1, if s = [45] then P else P ++ s, st.names, lastD st.last c t, if isNew c then t else st.name, if isNew c then st.pos + 1 else st.beg⟩
/-- The pile comes to its end with that result. -/
def Ends (toks : List (List UInt8)) (x1 : StH) (x2 : List DeclM ⊕ Nat) : Prop :=
  ∀ motive : StH → List DeclM ⊕ Nat → Prop, (∀ (st : StH) (P : List UInt8) (c : UInt8) (res : List DeclM ⊕ Nat) (hp : st.pile = P ++ [c]) (hc : isEnd c) (hb : c = 73 → st.beg + 1 < toks.length) (h : motive ⟨st.pos, P, st.names ++ [declD toks st.name st.beg c], st.last, st.name, st.beg⟩ res), motive st res) → (∀ (st : StH) (P : List UInt8) (hp : st.pile = P ++ [72]) (hl : st.pos = toks.length) (ho : 0 < countD st.names 111), motive st (.inl st.names)) → (∀ (st : StH) (P : List UInt8) (c : UInt8) (hp : st.pile = P ++ [c]) (hc : ¬ isEnd c) (hl : st.pos = toks.length) (ho : ¬ (c = 72 ∧ 0 < countD st.names 111)), motive st (.inr st.pos)) → (∀ (st : StH) (P : List UInt8) (c : UInt8) (hp : st.pile = P ++ [c]) (hc : ¬ isEnd c) (hl : st.pos < toks.length) (h6 : 600 ≤ st.pos), motive st (.inr st.pos)) → (∀ (st : StH) (P : List UInt8) (c : UInt8) (hp : st.pile = P ++ [c]) (hc : ¬ isEnd c) (hl : st.pos < toks.length) (h6 : st.pos < 600) (hs : leadsD st.names st.last c (toks.getD st.pos []) = []), motive st (.inr st.pos)) → (∀ (st : StH) (P : List UInt8) (c : UInt8) (res : List DeclM ⊕ Nat) (hp : st.pile = P ++ [c]) (hc : ¬ isEnd c) (hl : st.pos < toks.length) (h6 : st.pos < 600) (hs : leadsD st.names st.last c (toks.getD st.pos []) ≠ []) (h : motive (nextD st P c (toks.getD st.pos []) (leadsD st.names st.last c (toks.getD st.pos []))) res), motive st res) → motive x1 x2
theorem Ends.name {toks : List (List UInt8)} (st : StH) (P : List UInt8) (c : UInt8) (res : List DeclM ⊕ Nat) (hp : st.pile = P ++ [c]) (hc : isEnd c) (hb : c = 73 → st.beg + 1 < toks.length) (h : Ends toks ⟨st.pos, P, st.names ++ [declD toks st.name st.beg c], st.last, st.name, st.beg⟩ res) : Ends toks st res := fun motive m1 m2 m3 m4 m5 m6 => m1 st P c res hp hc hb (h motive m1 m2 m3 m4 m5 m6)
theorem Ends.good {toks : List (List UInt8)} (st : StH) (P : List UInt8) (hp : st.pile = P ++ [72]) (hl : st.pos = toks.length) (ho : 0 < countD st.names 111) : Ends toks st (.inl st.names) := fun motive m1 m2 m3 m4 m5 m6 => m2 st P hp hl ho
theorem Ends.stop {toks : List (List UInt8)} (st : StH) (P : List UInt8) (c : UInt8) (hp : st.pile = P ++ [c]) (hc : ¬ isEnd c) (hl : st.pos = toks.length) (ho : ¬ (c = 72 ∧ 0 < countD st.names 111)) : Ends toks st (.inr st.pos) := fun motive m1 m2 m3 m4 m5 m6 => m3 st P c hp hc hl ho
theorem Ends.long {toks : List (List UInt8)} (st : StH) (P : List UInt8) (c : UInt8) (hp : st.pile = P ++ [c]) (hc : ¬ isEnd c) (hl : st.pos < toks.length) (h6 : 600 ≤ st.pos) : Ends toks st (.inr st.pos) := fun motive m1 m2 m3 m4 m5 m6 => m4 st P c hp hc hl h6
theorem Ends.bad {toks : List (List UInt8)} (st : StH) (P : List UInt8) (c : UInt8) (hp : st.pile = P ++ [c]) (hc : ¬ isEnd c) (hl : st.pos < toks.length) (h6 : st.pos < 600) (hs : leadsD st.names st.last c (toks.getD st.pos []) = []) : Ends toks st (.inr st.pos) := fun motive m1 m2 m3 m4 m5 m6 => m5 st P c hp hc hl h6 hs
theorem Ends.go {toks : List (List UInt8)} (st : StH) (P : List UInt8) (c : UInt8) (res : List DeclM ⊕ Nat) (hp : st.pile = P ++ [c]) (hc : ¬ isEnd c) (hl : st.pos < toks.length) (h6 : st.pos < 600) (hs : leadsD st.names st.last c (toks.getD st.pos []) ≠ []) (h : Ends toks (nextD st P c (toks.getD st.pos []) (leadsD st.names st.last c (toks.getD st.pos []))) res) : Ends toks st res := fun motive m1 m2 m3 m4 m5 m6 => m6 st P c res hp hc hl h6 hs (h motive m1 m2 m3 m4 m5 m6)
theorem Ends.ind {toks : List (List UInt8)} {motive : ∀ (x1 : StH) (x2 : List DeclM ⊕ Nat), Ends toks x1 x2 → Prop}
    (name : ∀ (st : StH) (P : List UInt8) (c : UInt8) (res : List DeclM ⊕ Nat) (hp : st.pile = P ++ [c]) (hc : isEnd c) (hb : c = 73 → st.beg + 1 < toks.length) (h : Ends toks ⟨st.pos, P, st.names ++ [declD toks st.name st.beg c], st.last, st.name, st.beg⟩ res), motive ⟨st.pos, P, st.names ++ [declD toks st.name st.beg c], st.last, st.name, st.beg⟩ res h → motive st res (Ends.name st P c res hp hc hb h))
    (good : ∀ (st : StH) (P : List UInt8) (hp : st.pile = P ++ [72]) (hl : st.pos = toks.length) (ho : 0 < countD st.names 111), motive st (.inl st.names) (Ends.good st P hp hl ho))
    (stop : ∀ (st : StH) (P : List UInt8) (c : UInt8) (hp : st.pile = P ++ [c]) (hc : ¬ isEnd c) (hl : st.pos = toks.length) (ho : ¬ (c = 72 ∧ 0 < countD st.names 111)), motive st (.inr st.pos) (Ends.stop st P c hp hc hl ho))
    (long : ∀ (st : StH) (P : List UInt8) (c : UInt8) (hp : st.pile = P ++ [c]) (hc : ¬ isEnd c) (hl : st.pos < toks.length) (h6 : 600 ≤ st.pos), motive st (.inr st.pos) (Ends.long st P c hp hc hl h6))
    (bad : ∀ (st : StH) (P : List UInt8) (c : UInt8) (hp : st.pile = P ++ [c]) (hc : ¬ isEnd c) (hl : st.pos < toks.length) (h6 : st.pos < 600) (hs : leadsD st.names st.last c (toks.getD st.pos []) = []), motive st (.inr st.pos) (Ends.bad st P c hp hc hl h6 hs))
    (go : ∀ (st : StH) (P : List UInt8) (c : UInt8) (res : List DeclM ⊕ Nat) (hp : st.pile = P ++ [c]) (hc : ¬ isEnd c) (hl : st.pos < toks.length) (h6 : st.pos < 600) (hs : leadsD st.names st.last c (toks.getD st.pos []) ≠ []) (h : Ends toks (nextD st P c (toks.getD st.pos []) (leadsD st.names st.last c (toks.getD st.pos []))) res), motive (nextD st P c (toks.getD st.pos []) (leadsD st.names st.last c (toks.getD st.pos []))) res h → motive st res (Ends.go st P c res hp hc hl h6 hs h))
    {x1 : StH} {x2 : List DeclM ⊕ Nat} (t : Ends toks x1 x2) : motive x1 x2 t := by
  have key : ∃ h : Ends toks x1 x2, motive x1 x2 h := by
    refine t (fun x1 x2 => ∃ h : Ends toks x1 x2, motive x1 x2 h) ?_ ?_ ?_ ?_ ?_ ?_
    · intro st P c res hp hc hb h
      obtain ⟨h, hi⟩ := h
      exact ⟨Ends.name st P c res hp hc hb h, name st P c res hp hc hb h hi⟩
    · intro st P hp hl ho
      exact ⟨Ends.good st P hp hl ho, good st P hp hl ho⟩
    · intro st P c hp hc hl ho
      exact ⟨Ends.stop st P c hp hc hl ho, stop st P c hp hc hl ho⟩
    · intro st P c hp hc hl h6
      exact ⟨Ends.long st P c hp hc hl h6, long st P c hp hc hl h6⟩
    · intro st P c hp hc hl h6 hs
      exact ⟨Ends.bad st P c hp hc hl h6 hs, bad st P c hp hc hl h6 hs⟩
    · intro st P c res hp hc hl h6 hs h
      obtain ⟨h, hi⟩ := h
      exact ⟨Ends.go st P c res hp hc hl h6 hs h, go st P c res hp hc hl h6 hs h hi⟩
  obtain ⟨_, k⟩ := key
  exact k
theorem Ends.inv {toks : List (List UInt8)} {st : StH} {res : List DeclM ⊕ Nat} (h : Ends toks st res) :
    (∃ P c, st.pile = P ++ [c] ∧ isEnd c ∧ (c = 73 → st.beg + 1 < toks.length) ∧ Ends toks ⟨st.pos, P, st.names ++ [declD toks st.name st.beg c], st.last, st.name, st.beg⟩ res) ∨
    (∃ P, st.pile = P ++ [72] ∧ st.pos = toks.length ∧ 0 < countD st.names 111 ∧ res = .inl st.names) ∨
    (∃ P c, st.pile = P ++ [c] ∧ ¬ isEnd c ∧ st.pos = toks.length ∧ ¬ (c = 72 ∧ 0 < countD st.names 111) ∧ res = .inr st.pos) ∨
    (∃ P c, st.pile = P ++ [c] ∧ ¬ isEnd c ∧ st.pos < toks.length ∧ 600 ≤ st.pos ∧ res = .inr st.pos) ∨
    (∃ P c, st.pile = P ++ [c] ∧ ¬ isEnd c ∧ st.pos < toks.length ∧ st.pos < 600 ∧ leadsD st.names st.last c (toks.getD st.pos []) = [] ∧ res = .inr st.pos) ∨
    (∃ P c, st.pile = P ++ [c] ∧ ¬ isEnd c ∧ st.pos < toks.length ∧ st.pos < 600 ∧ leadsD st.names st.last c (toks.getD st.pos []) ≠ [] ∧ Ends toks (nextD st P c (toks.getD st.pos []) (leadsD st.names st.last c (toks.getD st.pos []))) res) := by
  induction h using Ends.ind with
  | name st P c res hp hc hb h ih => exact .inl ⟨P, c, hp, hc, hb, h⟩
  | good st P hp hl ho => exact .inr (.inl ⟨P, hp, hl, ho, rfl⟩)
  | stop st P c hp hc hl ho => exact .inr (.inr (.inl ⟨P, c, hp, hc, hl, ho, rfl⟩))
  | long st P c hp hc hl h6 => exact .inr (.inr (.inr (.inl ⟨P, c, hp, hc, hl, h6, rfl⟩)))
  | bad st P c hp hc hl h6 hs => exact .inr (.inr (.inr (.inr (.inl ⟨P, c, hp, hc, hl, h6, hs, rfl⟩))))
  | go st P c res hp hc hl h6 hs h ih => exact .inr (.inr (.inr (.inr (.inr ⟨P, c, hp, hc, hl, h6, hs, h⟩))))
theorem ends_fail {toks : List (List UInt8)} {pos : Nat} {P : List UInt8} {c : UInt8} {names : List DeclM} {last : Int} {nm : List UInt8} {bg : Nat} (hl : pos ≤ toks.length) (hc : ¬ isEnd c) (h72 : c = 72 → pos = toks.length → countD names 111 = 0) (hs : leadsD names last c (atR toks pos) = []) : Ends toks ⟨pos, P ++ [c], names, last, nm, bg⟩ (.inr pos) := by
  by_cases h1 : pos = toks.length
  · exact .stop _ P c rfl hc h1 (fun h => by have := h72 h.1 h1; simp only at h; omega)
  · by_cases h6 : pos < 600
    · have e : atR toks pos = toks.getD pos [] := by unfold atR; rw [if_pos (by omega)]
      rw [e] at hs
      exact .bad _ P c rfl hc (by simp only; omega) h6 hs
    · exact .long _ P c rfl hc (by simp only; omega) (by simp only; omega)
theorem ends_tok {toks : List (List UInt8)} {pos : Nat} {P : List UInt8} {c : UInt8} {names : List DeclM} {last : Int} {nm : List UInt8} {bg : Nat} {res : List DeclM ⊕ Nat} {s : List UInt8} (hc : ¬ isEnd c) (ht : atR toks pos ≠ []) (hs : leadsD names last c (atR toks pos) = s) (hs0 : s ≠ [])
    (h : Ends toks ⟨pos + 1, if s = [45] then P else P ++ s, names, lastD last c (atR toks pos), if isNew c then atR toks pos else nm, if isNew c then pos + 1 else bg⟩ res) : Ends toks ⟨pos, P ++ [c], names, last, nm, bg⟩ res := by
  obtain ⟨h1, h2, h3⟩ := atR_some ht
  rw [h3] at hs h
  exact .go _ P c res rfl hc h1 h2 (by simp only [hs]; exact hs0) (by unfold nextD; simp only [hs]; exact h)
/-- From one pile to another, whatever the last number was; behind it is another one. -/
def Goes (toks : List (List UInt8)) (names : List DeclM) (pos : Nat) (P : List UInt8) (q : Nat) (Q : List UInt8) : Prop :=
  ∀ last nm bg, ∃ last', ∀ res, Ends toks ⟨q, Q, names, last', nm, bg⟩ res → Ends toks ⟨pos, P, names, last, nm, bg⟩ res
def Fails (toks : List (List UInt8)) (names : List DeclM) (pos : Nat) (P : List UInt8) (p : Nat) : Prop := ∀ last nm bg, Ends toks ⟨pos, P, names, last, nm, bg⟩ (.inr p)
theorem Goes.trans {toks : List (List UInt8)} {names : List DeclM} {a b d : Nat} {P Q R : List UInt8} (h : Goes toks names a P b Q) (k : Goes toks names b Q d R) : Goes toks names a P d R := by
  intro last nm bg
  obtain ⟨l1, h1⟩ := h last nm bg
  obtain ⟨l2, h2⟩ := k l1 nm bg
  exact ⟨l2, fun res hr => h1 res (h2 res hr)⟩
theorem Goes.fails {toks : List (List UInt8)} {names : List DeclM} {a b p : Nat} {P Q : List UInt8} (h : Goes toks names a P b Q) (k : Fails toks names b Q p) : Fails toks names a P p := by
  intro last nm bg
  obtain ⟨l1, h1⟩ := h last nm bg
  exact h1 _ (k l1 nm bg)
/-- Wanted signs that do not ask the last number and leave the name alone. -/
def isMid (c : UInt8) : Prop := c = 69 ∨ c = 67 ∨ c = 78 ∨ c = 77 ∨ c = 68 ∨ c = 75 ∨ c = 82
theorem isMid.leads {c : UInt8} (h : isMid c) (names : List DeclM) (l l' : Int) (t : List UInt8) : leadsD names l c t = leadsD names l' c t ∧ ¬ isEnd c ∧ ¬ isNew c ∧ c ≠ 72 := by
  rcases h with rfl | rfl | rfl | rfl | rfl | rfl | rfl <;> exact ⟨rfl, by decide, by decide, by decide⟩
theorem goes_tok {toks : List (List UInt8)} {names : List DeclM} {pos : Nat} {P : List UInt8} {c : UInt8} {s : List UInt8} (hc : isMid c) (ht : atR toks pos ≠ []) (hs : leadsD names 0 c (atR toks pos) = s) (hs0 : s ≠ []) : Goes toks names pos (P ++ [c]) (pos + 1) (if s = [45] then P else P ++ s) := by
  intro last nm bg
  obtain ⟨h1, h2, h3, _⟩ := hc.leads names last 0 (atR toks pos)
  refine ⟨lastD last c (atR toks pos), fun res hr => ends_tok h2 ht (h1.trans hs) hs0 ?_⟩
  rw [if_neg h3, if_neg h3]
  exact hr
theorem fails_tok {toks : List (List UInt8)} {names : List DeclM} {pos : Nat} {P : List UInt8} {c : UInt8} (hc : isMid c) (hl : pos ≤ toks.length) (hs : leadsD names 0 c (atR toks pos) = []) : Fails toks names pos (P ++ [c]) pos := by
  intro last nm bg
  obtain ⟨h1, h2, h3, h4⟩ := hc.leads names last 0 (atR toks pos)
  exact ends_fail hl h2 (fun h => absurd h h4) (h1.trans hs)
end Go.Proofs.YtfaljekgpnbmiaaGreat.Pl
