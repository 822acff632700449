/- The grammar over words, as relations: what is read from a place on: plain mathematics. -/
import Derived.Test.YtncgmnijgdfenaaDoorTrA
import Derived.Test.YtncgmnijgdfenaaDoorLxF
namespace Go.Proofs.YtncgmnijgdfenaaDoor.Gl
set_option linter.unusedVariables false
set_option linter.unusedSimpArgs false

abbrev kNot : ByteArray := ⟨#[110, 111, 116]⟩
abbrev kEx : ByteArray := ⟨#[101, 120]⟩
abbrev kAll : ByteArray := ⟨#[97, 108, 108]⟩
abbrev kTrue : ByteArray := ⟨#[116, 114, 117, 101]⟩
abbrev kFalse : ByteArray := ⟨#[102, 97, 108, 115, 101]⟩
abbrev kMod : ByteArray := ⟨#[109, 111, 100]⟩
abbrev kAnd : ByteArray := ⟨#[97, 110, 100]⟩
abbrev kOr : ByteArray := ⟨#[111, 114]⟩
abbrev kTo : ByteArray := ⟨#[45, 62]⟩
abbrev kIff : ByteArray := ⟨#[60, 45, 62]⟩
abbrev kOpen : ByteArray := ⟨#[40]⟩
abbrev kShut : ByteArray := ⟨#[41]⟩
abbrev kSq : ByteArray := ⟨#[91]⟩
abbrev kQs : ByteArray := ⟨#[93]⟩
abbrev kComma : ByteArray := ⟨#[44]⟩
abbrev kDot : ByteArray := ⟨#[46]⟩
abbrev kPlus : ByteArray := ⟨#[43]⟩
abbrev kMinus : ByteArray := ⟨#[45]⟩
abbrev kStar : ByteArray := ⟨#[42]⟩
/- the atoms' signs: <=, <, >=, >, =, !=, ~ -/
abbrev rels : List ByteArray := [⟨#[60, 61]⟩, ⟨#[60]⟩, ⟨#[62, 61]⟩, ⟨#[62]⟩, ⟨#[61]⟩, ⟨#[33, 61]⟩, ⟨#[126]⟩]
/-- a sign, a name, a number stands at p -/
def IsS (ws : List Wd) (p : Nat) (x : ByteArray) : Prop := ∃ w, ws[p]? = some w ∧ w.kind = 2 ∧ w.text = x
def IsN (ws : List Wd) (p : Nat) (x : ByteArray) : Prop := ∃ w, ws[p]? = some w ∧ w.kind = 0 ∧ w.text = x
def IsD (ws : List Wd) (p : Nat) (n : Nat) : Prop := ∃ w, ws[p]? = some w ∧ w.kind = 1 ∧ w.num = n
theorem lt_of_some {ws : List Wd} {p : Nat} {w : Wd} (h : ws[p]? = some w) : p < ws.length := (List.getElem?_eq_some_iff.1 h).1
theorem IsS.lt {ws : List Wd} {p : Nat} {x : ByteArray} (h : IsS ws p x) : p < ws.length := lt_of_some h.choose_spec.1
theorem IsN.lt {ws : List Wd} {p : Nat} {x : ByteArray} (h : IsN ws p x) : p < ws.length := lt_of_some h.choose_spec.1
theorem IsD.lt {ws : List Wd} {p n : Nat} (h : IsD ws p n) : p < ws.length := lt_of_some h.choose_spec.1
theorem IsS.one {ws : List Wd} {p : Nat} {x y : ByteArray} (h : IsS ws p x) (k : IsS ws p y) : x = y := by
  obtain ⟨w, a, _, b⟩ := h
  obtain ⟨w', a', _, b'⟩ := k
  rw [a] at a'
  cases a'
  exact b.symm.trans b'
inductive Out (α : Type) where
  | ok (a : α) (q : Nat)
  | bad (why q : Nat)
abbrev tNeg (x : Tm) : Tm := .mk 2 0 emp [x]
abbrev tMul (x y : Tm) : Tm := .mk 5 0 emp [x, y]
abbrev tAdd (x y : Tm) : Tm := .mk 3 0 emp [x, y]
abbrev tSub (x y : Tm) : Tm := .mk 4 0 emp [x, y]
/- what a term's part is -/
inductive QT where
  | fac
  | prod
  | prodL (x : Tm)
  | sum
  | sumL (x : Tm)
inductive PT (ws : List Wd) : QT → Nat → Out Tm → Prop
  | sqBad {p e q} : IsS ws p kSq → PT ws .sum (p + 1) (.bad e q) → PT ws .fac p (.bad e q)
  | sqNo {p x q} : IsS ws p kSq → PT ws .sum (p + 1) (.ok x q) → ¬ IsS ws q kQs → PT ws .fac p (.bad 71 q)
  | sq {p x q} : IsS ws p kSq → PT ws .sum (p + 1) (.ok x q) → IsS ws q kQs → PT ws .fac p (.ok x (q + 1))
  | negBad {p e q} : IsS ws p kMinus → PT ws .fac (p + 1) (.bad e q) → PT ws .fac p (.bad e q)
  | neg {p x q} : IsS ws p kMinus → PT ws .fac (p + 1) (.ok x q) → PT ws .fac p (.ok (tNeg x) q)
  | name {p x} : IsN ws p x → PT ws .fac p (.ok (.mk 1 0 x []) (p + 1))
  | num {p n} : IsD ws p n → PT ws .fac p (.ok (.mk 0 n emp []) (p + 1))
  | none {p} : ¬ IsS ws p kSq → ¬ IsS ws p kMinus → (∀ x, ¬ IsN ws p x) → (∀ n, ¬ IsD ws p n) → PT ws .fac p (.bad 71 p)
  | prodBad {p e q} : PT ws .fac p (.bad e q) → PT ws .prod p (.bad e q)
  | prod {p x q r} : PT ws .fac p (.ok x q) → PT ws (.prodL x) q r → PT ws .prod p r
  | prodStop {p x} : ¬ IsS ws p kStar → PT ws (.prodL x) p (.ok x p)
  | prodLBad {p x e q} : IsS ws p kStar → PT ws .fac (p + 1) (.bad e q) → PT ws (.prodL x) p (.bad e q)
  | prodL {p x y q r} : IsS ws p kStar → PT ws .fac (p + 1) (.ok y q) → PT ws (.prodL (tMul x y)) q r → PT ws (.prodL x) p r
  | sumBad {p e q} : PT ws .prod p (.bad e q) → PT ws .sum p (.bad e q)
  | sum {p x q r} : PT ws .prod p (.ok x q) → PT ws (.sumL x) q r → PT ws .sum p r
  | sumStop {p x} : ¬ IsS ws p kPlus → ¬ IsS ws p kMinus → PT ws (.sumL x) p (.ok x p)
  | addBad {p x e q} : IsS ws p kPlus → PT ws .prod (p + 1) (.bad e q) → PT ws (.sumL x) p (.bad e q)
  | add {p x y q r} : IsS ws p kPlus → PT ws .prod (p + 1) (.ok y q) → PT ws (.sumL (tAdd x y)) q r → PT ws (.sumL x) p r
  | subBad {p x e q} : IsS ws p kMinus → PT ws .prod (p + 1) (.bad e q) → PT ws (.sumL x) p (.bad e q)
  | sub {p x y q r} : IsS ws p kMinus → PT ws .prod (p + 1) (.ok y q) → PT ws (.sumL (tSub x y)) q r → PT ws (.sumL x) p r
/- how far it goes -/
def QT.more : QT → Nat
  | .prodL _ => 0
  | .sumL _ => 0
  | _ => 1
def Out.far {α : Type} (n p : Nat) (len : Nat) : Out α → Prop
  | .ok _ q => p + n ≤ q ∧ q ≤ max p len
  | .bad _ q => p ≤ q ∧ q ≤ max p len
theorem PT.far {ws : List Wd} {k : QT} {p : Nat} {r : Out Tm} (h : PT ws k p r) : r.far k.more p ws.length := by
  induction h with
  | sqBad a _ i => have := a.lt; simp only [Out.far, QT.more] at *; omega
  | sqNo a _ _ i => have := a.lt; simp only [Out.far, QT.more] at *; omega
  | sq a _ b i => have := a.lt; have := b.lt; simp only [Out.far, QT.more] at *; omega
  | negBad a _ i => have := a.lt; simp only [Out.far, QT.more] at *; omega
  | neg a _ i => have := a.lt; simp only [Out.far, QT.more] at *; omega
  | name a => have := a.lt; simp only [Out.far, QT.more] at *; omega
  | num a => have := a.lt; simp only [Out.far, QT.more] at *; omega
  | none _ _ _ _ => simp only [Out.far, QT.more] at *; omega
  | prodBad _ i => simp only [Out.far, QT.more] at *; omega
  | @prod p x q r _ _ i j => cases r <;> simp only [Out.far, QT.more] at * <;> omega
  | prodStop _ => simp only [Out.far, QT.more] at *; omega
  | prodLBad a _ i => have := a.lt; simp only [Out.far, QT.more] at *; omega
  | @prodL p x y q r a _ _ i j => have := a.lt; cases r <;> simp only [Out.far, QT.more] at * <;> omega
  | sumBad _ i => simp only [Out.far, QT.more] at *; omega
  | @sum p x q r _ _ i j => cases r <;> simp only [Out.far, QT.more] at * <;> omega
  | sumStop _ _ => simp only [Out.far, QT.more] at *; omega
  | addBad a _ i => have := a.lt; simp only [Out.far, QT.more] at *; omega
  | @add p x y q r a _ _ i j => have := a.lt; cases r <;> simp only [Out.far, QT.more] at * <;> omega
  | subBad a _ i => have := a.lt; simp only [Out.far, QT.more] at *; omega
  | @sub p x y q r a _ _ i j => have := a.lt; cases r <;> simp only [Out.far, QT.more] at * <;> omega
/- there is an answer -/
theorem PT.ex (ws : List Wd) : ∀ k p, ws.length - p ≤ k → (∃ r, PT ws .fac p r) ∧ (∃ r, PT ws .prod p r) ∧ (∃ r, PT ws .sum p r) ∧ (∀ x, ∃ r, PT ws (.prodL x) p r) ∧ ∀ x, ∃ r, PT ws (.sumL x) p r := by
  intro k
  induction k using Nat.strongRecOn with
  | _ k ih =>
    intro p hp
    have hfac : ∃ r, PT ws .fac p r := by
      by_cases h1 : IsS ws p kSq
      · obtain ⟨r, hr⟩ := (ih (k - 1) (by have := h1.lt; omega) (p + 1) (by have := h1.lt; omega)).2.2.1
        cases r with
        | bad e q => exact ⟨_, .sqBad h1 hr⟩
        | ok x q =>
          by_cases h2 : IsS ws q kQs
          · exact ⟨_, .sq h1 hr h2⟩
          · exact ⟨_, .sqNo h1 hr h2⟩
      · by_cases h2 : IsS ws p kMinus
        · obtain ⟨r, hr⟩ := (ih (k - 1) (by have := h2.lt; omega) (p + 1) (by have := h2.lt; omega)).1
          cases r with
          | bad e q => exact ⟨_, .negBad h2 hr⟩
          | ok x q => exact ⟨_, .neg h2 hr⟩
        · by_cases h3 : ∃ x, IsN ws p x
          · obtain ⟨x, h3⟩ := h3; exact ⟨_, .name h3⟩
          · by_cases h4 : ∃ n, IsD ws p n
            · obtain ⟨n, h4⟩ := h4; exact ⟨_, .num h4⟩
            · exact ⟨_, .none h1 h2 (fun x hx => h3 ⟨x, hx⟩) (fun n hn => h4 ⟨n, hn⟩)⟩
    have hpl : ∀ x, ∃ r, PT ws (.prodL x) p r := by
      intro x
      by_cases h1 : IsS ws p kStar
      · have hlt := h1.lt
        obtain ⟨r, hr⟩ := (ih (k - 1) (by omega) (p + 1) (by omega)).1
        cases r with
        | bad e q => exact ⟨_, .prodLBad h1 hr⟩
        | ok y q =>
          have := hr.far
          simp only [Out.far, QT.more] at this
          obtain ⟨r, hr'⟩ := (ih (k - 1) (by omega) q (by omega)).2.2.2.1 (tMul x y)
          exact ⟨_, .prodL h1 hr hr'⟩
      · exact ⟨_, .prodStop h1⟩
    have hprod : ∃ r, PT ws .prod p r := by
      obtain ⟨r, hr⟩ := hfac
      cases r with
      | bad e q => exact ⟨_, .prodBad hr⟩
      | ok x q =>
        have := hr.far
        simp only [Out.far, QT.more] at this
        obtain ⟨r, hr'⟩ := (ih (k - 1) (by omega) q (by omega)).2.2.2.1 x
        exact ⟨_, .prod hr hr'⟩
    have hsl : ∀ x, ∃ r, PT ws (.sumL x) p r := by
      intro x
      by_cases h1 : IsS ws p kPlus
      · have hlt := h1.lt
        obtain ⟨r, hr⟩ := (ih (k - 1) (by omega) (p + 1) (by omega)).2.1
        cases r with
        | bad e q => exact ⟨_, .addBad h1 hr⟩
        | ok y q =>
          have := hr.far
          simp only [Out.far, QT.more] at this
          obtain ⟨r, hr'⟩ := (ih (k - 1) (by omega) q (by omega)).2.2.2.2 (tAdd x y)
          exact ⟨_, .add h1 hr hr'⟩
      · by_cases h2 : IsS ws p kMinus
        · have hlt := h2.lt
          obtain ⟨r, hr⟩ := (ih (k - 1) (by omega) (p + 1) (by omega)).2.1
          cases r with
          | bad e q => exact ⟨_, .subBad h2 hr⟩
          | ok y q =>
            have := hr.far
            simp only [Out.far, QT.more] at this
            obtain ⟨r, hr'⟩ := (ih (k - 1) (by omega) q (by omega)).2.2.2.2 (tSub x y)
            exact ⟨_, .sub h2 hr hr'⟩
        · exact ⟨_, .sumStop h1 h2⟩
    have hsum : ∃ r, PT ws .sum p r := by
      obtain ⟨r, hr⟩ := hprod
      cases r with
      | bad e q => exact ⟨_, .sumBad hr⟩
      | ok x q =>
        have := hr.far
        simp only [Out.far, QT.more] at this
        obtain ⟨r, hr'⟩ := (ih (k - 1) (by omega) q (by omega)).2.2.2.2 x
        exact ⟨_, .sum hr hr'⟩
    exact ⟨hfac, hprod, hsum, hpl, hsl⟩
end Go.Proofs.YtncgmnijgdfenaaDoor.Gl
