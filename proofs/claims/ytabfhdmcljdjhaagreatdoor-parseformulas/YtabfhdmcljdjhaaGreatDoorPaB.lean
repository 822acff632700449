/- The grammar of formulas over words: plain mathematics. -/
import Derived.Test.YtabfhdmcljdjhaaGreatDoorPaA
namespace Go.Proofs.YtabfhdmcljdjhaaGreatDoor.Gl
set_option linter.unusedVariables false
set_option linter.unusedSimpArgs false

abbrev fPair (op : Int) (a b : Fm) : Fm := .mk op emp 0 [] [a, b]
abbrev fNot (a : Fm) : Fm := .mk 2 emp 0 [] [a]
abbrev fQ (op : Int) (x : ByteArray) (a : Fm) : Fm := .mk op x 0 [] [a]
abbrev fTrue : Fm := .mk 0 emp 0 [] []
abbrev fFalse : Fm := .mk 1 emp 0 [] []
/- the sign between a level's parts, and its kind -/
def sgOf : Nat → ByteArray
  | 0 => kIff
  | 1 => kTo
  | 2 => kOr
  | _ => kAnd
def opOf : Nat → Int
  | 0 => 6
  | 1 => 5
  | 2 => 4
  | _ => 3
def foldR (op : Int) : Fm → List Fm → Fm
  | a, [] => a
  | a, b :: l => fPair op a (foldR op b l)
def foldL (op : Int) : Fm → List Fm → Fm
  | a, [] => a
  | a, b :: l => foldL op (fPair op a b) l
def fold (n : Nat) (a : Fm) (l : List Fm) : Fm := if n = 1 then foldR (opOf n) a l else foldL (opOf n) a l
def quants (op : Int) : List ByteArray → Fm → Fm
  | [], f => f
  | x :: l, f => fQ op x (quants op l f)
/- names with commas between -/
inductive PN (ws : List Wd) : Nat → Out (List ByteArray) → Prop
  | none {p} : (∀ x, ¬ IsN ws p x) → PN ws p (.bad 71 p)
  | last {p x} : IsN ws p x → ¬ IsS ws (p + 1) kComma → PN ws p (.ok [x] (p + 1))
  | bad {p x e q} : IsN ws p x → IsS ws (p + 1) kComma → PN ws (p + 2) (.bad e q) → PN ws p (.bad e q)
  | more {p x l q} : IsN ws p x → IsS ws (p + 1) kComma → PN ws (p + 2) (.ok l q) → PN ws p (.ok (x :: l) q)
/- an atom -/
inductive PA (ws : List Wd) : Nat → Out Fm → Prop
  | bad1 {p e q} : PT ws .sum p (.bad e q) → PA ws p (.bad e q)
  | none {p a q} : PT ws .sum p (.ok a q) → (∀ x ∈ rels, ¬ IsS ws q x) → PA ws p (.bad 71 q)
  | bad2 {p a q x e q'} : PT ws .sum p (.ok a q) → x ∈ rels → IsS ws q x → PT ws .sum (q + 1) (.bad e q') → PA ws p (.bad e q')
  | rel {p a q i b q'} : PT ws .sum p (.ok a q) → i < 6 → IsS ws q (rels.getD i emp) → PT ws .sum (q + 1) (.ok b q') → PA ws p (.ok (.mk (9 + (i : Nat)) emp 0 [a, b] []) q')
  | noMod {p a q b q'} : PT ws .sum p (.ok a q) → IsS ws q (rels.getD 6 emp) → PT ws .sum (q + 1) (.ok b q') → ¬ IsS ws q' kMod → PA ws p (.bad 71 q')
  | noNum {p a q b q'} : PT ws .sum p (.ok a q) → IsS ws q (rels.getD 6 emp) → PT ws .sum (q + 1) (.ok b q') → IsS ws q' kMod → (∀ n, ¬ IsD ws (q' + 1) n) → PA ws p (.bad 71 (q' + 1))
  | zero {p a q b q'} : PT ws .sum p (.ok a q) → IsS ws q (rels.getD 6 emp) → PT ws .sum (q + 1) (.ok b q') → IsS ws q' kMod → IsD ws (q' + 1) 0 → PA ws p (.bad 92 (q' + 1))
  | cong {p a q b q' n} : PT ws .sum p (.ok a q) → IsS ws q (rels.getD 6 emp) → PT ws .sum (q + 1) (.ok b q') → IsS ws q' kMod → IsD ws (q' + 1) n → n ≠ 0 → PA ws p (.ok (.mk 15 emp n [a, b] []) (q' + 2))
inductive QF where
  | lev (n : Nat)
  | tail (n : Nat)
  | un
inductive Rs where
  | f (f : Fm)
  | l (l : List Fm)
/- no sign of a unary stands at p -/
def noUn (ws : List Wd) (p : Nat) : Prop := ∀ x ∈ [kNot, kEx, kAll, kOpen, kTrue, kFalse], ¬ IsS ws p x
inductive PF (ws : List Wd) : QF → Nat → Out Rs → Prop
  | un {p r} : PF ws .un p r → PF ws (.lev 4) p r
  | levBad {n p e q} : n < 4 → PF ws (.lev (n + 1)) p (.bad e q) → PF ws (.lev n) p (.bad e q)
  | levTail {n p a q e q'} : n < 4 → PF ws (.lev (n + 1)) p (.ok (.f a) q) → PF ws (.tail n) q (.bad e q') → PF ws (.lev n) p (.bad e q')
  | lev {n p a q l q'} : n < 4 → PF ws (.lev (n + 1)) p (.ok (.f a) q) → PF ws (.tail n) q (.ok (.l l) q') → PF ws (.lev n) p (.ok (.f (fold n a l)) q')
  | stop {n p} : n < 4 → ¬ IsS ws p (sgOf n) → PF ws (.tail n) p (.ok (.l []) p)
  | tailBad {n p e q} : n < 4 → IsS ws p (sgOf n) → PF ws (.lev (n + 1)) (p + 1) (.bad e q) → PF ws (.tail n) p (.bad e q)
  | tailTail {n p a q e q'} : n < 4 → IsS ws p (sgOf n) → PF ws (.lev (n + 1)) (p + 1) (.ok (.f a) q) → PF ws (.tail n) q (.bad e q') → PF ws (.tail n) p (.bad e q')
  | tail {n p a q l q'} : n < 4 → IsS ws p (sgOf n) → PF ws (.lev (n + 1)) (p + 1) (.ok (.f a) q) → PF ws (.tail n) q (.ok (.l l) q') → PF ws (.tail n) p (.ok (.l (a :: l)) q')
  | notBad {p e q} : IsS ws p kNot → PF ws .un (p + 1) (.bad e q) → PF ws .un p (.bad e q)
  | not {p a q} : IsS ws p kNot → PF ws .un (p + 1) (.ok (.f a) q) → PF ws .un p (.ok (.f (fNot a)) q)
  | quNames {p x o e q} : (x, o) ∈ [(kEx, (7 : Int)), (kAll, 8)] → IsS ws p x → PN ws (p + 1) (.bad e q) → PF ws .un p (.bad e q)
  | quDot {p x o l q} : (x, o) ∈ [(kEx, (7 : Int)), (kAll, 8)] → IsS ws p x → PN ws (p + 1) (.ok l q) → ¬ IsS ws q kDot → PF ws .un p (.bad 71 q)
  | quBad {p x o l q e q'} : (x, o) ∈ [(kEx, (7 : Int)), (kAll, 8)] → IsS ws p x → PN ws (p + 1) (.ok l q) → IsS ws q kDot → PF ws .un (q + 1) (.bad e q') → PF ws .un p (.bad e q')
  | qu {p x o l q a q'} : (x, o) ∈ [(kEx, (7 : Int)), (kAll, 8)] → IsS ws p x → PN ws (p + 1) (.ok l q) → IsS ws q kDot → PF ws .un (q + 1) (.ok (.f a) q') → PF ws .un p (.ok (.f (quants o l a)) q')
  | brBad {p e q} : IsS ws p kOpen → PF ws (.lev 0) (p + 1) (.bad e q) → PF ws .un p (.bad e q)
  | brNo {p a q} : IsS ws p kOpen → PF ws (.lev 0) (p + 1) (.ok (.f a) q) → ¬ IsS ws q kShut → PF ws .un p (.bad 71 q)
  | br {p a q} : IsS ws p kOpen → PF ws (.lev 0) (p + 1) (.ok (.f a) q) → IsS ws q kShut → PF ws .un p (.ok (.f a) (q + 1))
  | tru {p} : IsS ws p kTrue → PF ws .un p (.ok (.f fTrue) (p + 1))
  | fls {p} : IsS ws p kFalse → PF ws .un p (.ok (.f fFalse) (p + 1))
  | atomBad {p e q} : noUn ws p → PA ws p (.bad e q) → PF ws .un p (.bad e q)
  | atom {p a q} : noUn ws p → PA ws p (.ok a q) → PF ws .un p (.ok (.f a) q)
theorem PN.far {ws : List Wd} {p : Nat} {r : Out (List ByteArray)} (h : PN ws p r) : r.far 1 p ws.length := by
  induction h with
  | none _ => simp only [Out.far]; omega
  | last a _ => have := a.lt; simp only [Out.far]; omega
  | bad a b _ i => have := b.lt; simp only [Out.far] at *; omega
  | more a b _ i => have := b.lt; simp only [Out.far] at *; omega
theorem PA.far {ws : List Wd} {p : Nat} {r : Out Fm} (h : PA ws p r) : r.far 1 p ws.length := by
  cases h with
  | bad1 a => have := a.far; simp only [Out.far, QT.more] at *; omega
  | none a _ => have := a.far; simp only [Out.far, QT.more] at *; omega
  | bad2 a _ s b => have := a.far; have := b.far; have := s.lt; simp only [Out.far, QT.more] at *; omega
  | rel a _ s b => have := a.far; have := b.far; have := s.lt; simp only [Out.far, QT.more] at *; omega
  | noMod a s b _ => have := a.far; have := b.far; have := s.lt; simp only [Out.far, QT.more] at *; omega
  | noNum a s b t _ => have := a.far; have := b.far; have := s.lt; have := t.lt; simp only [Out.far, QT.more] at *; omega
  | zero a s b t _ => have := a.far; have := b.far; have := s.lt; have := t.lt; simp only [Out.far, QT.more] at *; omega
  | cong a s b t d _ => have := a.far; have := b.far; have := s.lt; have := t.lt; have := d.lt; simp only [Out.far, QT.more] at *; omega
def QF.more : QF → Nat
  | .tail _ => 0
  | _ => 1
theorem PF.far {ws : List Wd} {k : QF} {p : Nat} {r : Out Rs} (h : PF ws k p r) : r.far k.more p ws.length := by
  induction h with
  | @un p r _ i => cases r <;> simp only [Out.far, QF.more] at * <;> omega
  | levBad _ _ i => simp only [Out.far, QF.more] at *; omega
  | levTail _ _ _ i j => simp only [Out.far, QF.more] at *; omega
  | lev _ _ _ i j => simp only [Out.far, QF.more] at *; omega
  | stop _ _ => simp only [Out.far, QF.more] at *; omega
  | tailBad _ a _ i => have := a.lt; simp only [Out.far, QF.more] at *; omega
  | tailTail _ a _ _ i j => have := a.lt; simp only [Out.far, QF.more] at *; omega
  | tail _ a _ _ i j => have := a.lt; simp only [Out.far, QF.more] at *; omega
  | notBad a _ i => have := a.lt; simp only [Out.far, QF.more] at *; omega
  | not a _ i => have := a.lt; simp only [Out.far, QF.more] at *; omega
  | quNames _ a b => have := a.lt; have := b.far; simp only [Out.far, QF.more] at *; omega
  | quDot _ a b _ => have := a.lt; have := b.far; simp only [Out.far, QF.more] at *; omega
  | quBad _ a b c _ i => have := a.lt; have := b.far; have := c.lt; simp only [Out.far, QF.more] at *; omega
  | qu _ a b c _ i => have := a.lt; have := b.far; have := c.lt; simp only [Out.far, QF.more] at *; omega
  | brBad a _ i => have := a.lt; simp only [Out.far, QF.more] at *; omega
  | brNo a _ _ i => have := a.lt; simp only [Out.far, QF.more] at *; omega
  | br a _ b i => have := a.lt; have := b.lt; simp only [Out.far, QF.more] at *; omega
  | tru a => have := a.lt; simp only [Out.far, QF.more] at *; omega
  | fls a => have := a.lt; simp only [Out.far, QF.more] at *; omega
  | atomBad _ a => have := a.far; simp only [Out.far, QF.more] at *; omega
  | atom _ a => have := a.far; simp only [Out.far, QF.more] at *; omega
/- the shape of an answer -/
def Out.fits : QF → Out Rs → Prop
  | .tail _, .ok (.f _) _ => False
  | .lev _, .ok (.l _) _ => False
  | .un, .ok (.l _) _ => False
  | _, _ => True
theorem PF.fits {ws : List Wd} {k : QF} {p : Nat} {r : Out Rs} (h : PF ws k p r) : r.fits k := by
  induction h with
  | @un p r _ i => cases r with
    | bad e q => trivial
    | ok a q => cases a <;> trivial
  | _ => trivial
theorem PN.ex (ws : List Wd) : ∀ k p, ws.length - p ≤ k → ∃ r, PN ws p r := by
  intro k
  induction k using Nat.strongRecOn with
  | _ k ih =>
    intro p hp
    by_cases h : ∃ x, IsN ws p x
    · obtain ⟨x, h⟩ := h
      by_cases h2 : IsS ws (p + 1) kComma
      · have := h2.lt
        obtain ⟨r, hr⟩ := ih (k - 1) (by omega) (p + 2) (by omega)
        cases r with
        | bad e q => exact ⟨_, .bad h h2 hr⟩
        | ok l q => exact ⟨_, .more h h2 hr⟩
      · exact ⟨_, .last h h2⟩
    · exact ⟨_, .none fun x hx => h ⟨x, hx⟩⟩
theorem PA.ex (ws : List Wd) (p : Nat) : ∃ r, PA ws p r := by
  have S : ∀ p, ∃ r, PT ws .sum p r := fun p => (PT.ex ws _ p (Nat.le_refl _)).2.2.1
  obtain ⟨r, hr⟩ := S p
  cases r with
  | bad e q => exact ⟨_, .bad1 hr⟩
  | ok a q =>
    by_cases h : ∃ x ∈ rels, IsS ws q x
    · obtain ⟨x, hx, hs⟩ := h
      obtain ⟨r, hr'⟩ := S (q + 1)
      cases r with
      | bad e q' => exact ⟨_, .bad2 hr hx hs hr'⟩
      | ok b q' =>
        by_cases h6 : IsS ws q (rels.getD 6 emp)
        · by_cases hm : IsS ws q' kMod
          · by_cases hn : ∃ n, IsD ws (q' + 1) n
            · obtain ⟨n, hn⟩ := hn
              by_cases h0 : n = 0
              · subst h0; exact ⟨_, .zero hr h6 hr' hm hn⟩
              · exact ⟨_, .cong hr h6 hr' hm hn h0⟩
            · exact ⟨_, .noNum hr h6 hr' hm fun n h => hn ⟨n, h⟩⟩
          · exact ⟨_, .noMod hr h6 hr' hm⟩
        · obtain ⟨i, hi, he⟩ : ∃ i, i < 7 ∧ rels.getD i emp = x := by
            obtain ⟨i, hi, he⟩ := List.mem_iff_getElem.1 hx
            exact ⟨i, hi, by rw [List.getD_eq_getElem?_getD, List.getElem?_eq_getElem hi]; exact he⟩
          subst he
          have : i ≠ 6 := fun h => by subst h; exact h6 hs
          exact ⟨_, .rel hr (by omega : i < 6) hs hr'⟩
    · exact ⟨_, .none hr fun x hx hs => h ⟨x, hx, hs⟩⟩
theorem PF.ex (ws : List Wd) : ∀ k p, ws.length - p ≤ k → (∃ r, PF ws .un p r) ∧ ∀ n, n ≤ 4 → (∃ r, PF ws (.lev n) p r) ∧ (n < 4 → ∃ r, PF ws (.tail n) p r) := by
  intro k
  induction k using Nat.strongRecOn with
  | _ k ih =>
    intro p hp
    have hun : ∃ r, PF ws .un p r := by
      by_cases h : ∃ x ∈ [kNot, kEx, kAll, kOpen, kTrue, kFalse], IsS ws p x
      · obtain ⟨x, hx, hs⟩ := h
        have hlt := hs.lt
        have Q : ∀ o, (x, o) ∈ [(kEx, (7 : Int)), (kAll, 8)] → ∃ r, PF ws .un p r := by
          intro o ho
          obtain ⟨r, hr⟩ := PN.ex ws _ (p + 1) (Nat.le_refl _)
          cases r with
          | bad e q => exact ⟨_, .quNames ho hs hr⟩
          | ok l q =>
            by_cases hd : IsS ws q kDot
            · have := hr.far
              have := hd.lt
              simp only [Out.far] at *
              obtain ⟨r, hr'⟩ := (ih (k - 1) (by omega) (q + 1) (by omega)).1
              cases r with
              | bad e q' => exact ⟨_, .quBad ho hs hr hd hr'⟩
              | ok a q' =>
                cases a with
                | f a => exact ⟨_, .qu ho hs hr hd hr'⟩
                | l a => exact absurd hr'.fits (by simp [Out.fits])
            · exact ⟨_, .quDot ho hs hr hd⟩
        simp only [List.mem_cons, List.not_mem_nil, or_false] at hx
        rcases hx with e | e | e | e | e | e
        · subst e
          obtain ⟨r, hr⟩ := (ih (k - 1) (by omega) (p + 1) (by omega)).1
          cases r with
          | bad e q => exact ⟨_, .notBad hs hr⟩
          | ok a q =>
            cases a with
            | f a => exact ⟨_, .not hs hr⟩
            | l a => exact absurd hr.fits (by simp [Out.fits])
        · subst e; exact Q 7 (by simp)
        · subst e; exact Q 8 (by simp)
        · subst e
          obtain ⟨r, hr⟩ := ((ih (k - 1) (by omega) (p + 1) (by omega)).2 0 (by omega)).1
          cases r with
          | bad e q => exact ⟨_, .brBad hs hr⟩
          | ok a q =>
            cases a with
            | f a =>
              by_cases h2 : IsS ws q kShut
              · exact ⟨_, .br hs hr h2⟩
              · exact ⟨_, .brNo hs hr h2⟩
            | l a => exact absurd hr.fits (by simp [Out.fits])
        · subst e; exact ⟨_, .tru hs⟩
        · subst e; exact ⟨_, .fls hs⟩
      · have hno : noUn ws p := fun x hx hs => h ⟨x, hx, hs⟩
        obtain ⟨r, hr⟩ := PA.ex ws p
        cases r with
        | bad e q => exact ⟨_, .atomBad hno hr⟩
        | ok a q => exact ⟨_, .atom hno hr⟩
    refine ⟨hun, ?_⟩
    have htail : ∀ n, n < 4 → ∃ r, PF ws (.tail n) p r := by
      intro n hn
      by_cases h : IsS ws p (sgOf n)
      · have := h.lt
        obtain ⟨r, hr⟩ := ((ih (k - 1) (by omega) (p + 1) (by omega)).2 (n + 1) (by omega)).1
        cases r with
        | bad e q => exact ⟨_, .tailBad hn h hr⟩
        | ok a q =>
          cases a with
          | l a => exact absurd hr.fits (by simp [Out.fits])
          | f a =>
            have := hr.far
            simp only [Out.far, QF.more] at this
            obtain ⟨r, hr'⟩ := ((ih (k - 1) (by omega) q (by omega)).2 n (by omega)).2 hn
            cases r with
            | bad e q => exact ⟨_, .tailTail hn h hr hr'⟩
            | ok l q =>
              cases l with
              | l l => exact ⟨_, .tail hn h hr hr'⟩
              | f l => exact absurd hr'.fits (by simp [Out.fits])
      · exact ⟨_, .stop hn h⟩
    have hlev : ∀ m n, n + m = 4 → ∃ r, PF ws (.lev n) p r := by
      intro m
      induction m with
      | zero =>
        intro n hn
        obtain rfl : n = 4 := by omega
        obtain ⟨r, hr⟩ := hun
        exact ⟨_, .un hr⟩
      | succ m ihm =>
        intro n hn
        obtain ⟨r, hr⟩ := ihm (n + 1) (by omega)
        cases r with
        | bad e q => exact ⟨_, .levBad (by omega) hr⟩
        | ok a q =>
          cases a with
          | l a => exact absurd hr.fits (by simp [Out.fits])
          | f a =>
            have hfar := hr.far
            simp only [Out.far, QF.more] at hfar
            obtain ⟨r, hr'⟩ : ∃ r, PF ws (.tail n) q r := by
              by_cases hlt : p < ws.length
              · exact ((ih (k - 1) (by omega) q (by omega)).2 n (by omega)).2 (by omega)
              · exact ⟨_, .stop (by omega) fun h => by have := h.lt; omega⟩
            cases r with
            | bad e q => exact ⟨_, .levTail (by omega) hr hr'⟩
            | ok l q =>
              cases l with
              | l l => exact ⟨_, .lev (by omega) hr hr'⟩
              | f l => exact absurd hr'.fits (by simp [Out.fits])
    exact fun n hn => ⟨hlev (4 - n) n (by omega), fun h => htail n h⟩
end Go.Proofs.YtabfhdmcljdjhaaGreatDoor.Gl
