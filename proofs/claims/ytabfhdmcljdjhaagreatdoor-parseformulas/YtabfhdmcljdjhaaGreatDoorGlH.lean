/- The grammar from where a reader stands: plain mathematics. -/
import Derived.Test.YtabfhdmcljdjhaaGreatDoorPaB
import Derived.Test.YtabfhdmcljdjhaaGreatDoorGlF
namespace Go.Proofs.YtabfhdmcljdjhaaGreatDoor.Gl
set_option linter.unusedVariables false
set_option linter.unusedSimpArgs false

/-- where a reader stands: at a word, or behind a fault -/
inductive Pos where
  | at (p : Nat)
  | bad (y q : Nat)
def Out.pos {α : Type} : Out α → Pos
  | .ok _ q => .at q
  | .bad y q => .bad y q
/-- what is answered: just this, where nothing is wrong -/
def Out.is {α : Type} (r : Out α) (x : α) : Prop := ∀ a q, r = .ok a q → x = a
def Pos.stands (ws : List Wd) (x : ByteArray) : Pos → Prop
  | .at p => IsS ws p x
  | .bad _ _ => False
def Pos.from (N : Nat) : Pos → Prop
  | .at p => N ≤ p
  | .bad _ _ => True
/-- goes wrong here, if it has not gone wrong -/
def Pos.ref (y : Nat) : Pos → Pos
  | .at p => .bad y p
  | .bad y q => .bad y q
/-- behind a sign that must stand here -/
def Pos.need (ws : List Wd) (x : ByteArray) (P P' : Pos) : Prop := (∃ p, P = .at p ∧ IsS ws p x ∧ P' = .at (p + 1)) ∨ (¬ P.stands ws x ∧ P' = P.ref 71)
theorem Pos.from.le {N M : Nat} {P : Pos} (h : P.from N) (hm : M ≤ N) : P.from M := by
  cases P with
  | «at» p => exact Nat.le_trans hm h
  | bad y q => trivial
theorem Pos.ref_from {N y : Nat} {P : Pos} : (P.ref y).from N := by cases P <;> trivial
theorem Pos.need.from {ws : List Wd} {x : ByteArray} {P P' : Pos} {N : Nat} (h : P.need ws x P') (hP : P.from N) : P'.from N := by
  rcases h with ⟨p, rfl, _, rfl⟩ | ⟨_, rfl⟩
  · exact Nat.le_succ_of_le hP
  · exact Pos.ref_from
theorem is_ok {α : Type} {x a : α} {q : Nat} (h : x = a) : (Out.ok a q).is x := fun _ _ e => by cases e; exact h
theorem is_bad {α : Type} {x : α} {e q : Nat} : (Out.bad e q : Out α).is x := fun _ _ e => by cases e
theorem of_is {α : Type} {x a : α} {q : Nat} (h : (Out.ok a q).is x) : x = a := h a q rfl
theorem IsN.one {ws : List Wd} {p : Nat} {x y : ByteArray} (h : IsN ws p x) (k : IsN ws p y) : x = y := by
  obtain ⟨w, a, _, b⟩ := h
  obtain ⟨w', a', _, b'⟩ := k
  rw [a] at a'
  cases a'
  exact b.symm.trans b'
theorem IsD.one {ws : List Wd} {p m n : Nat} (h : IsD ws p m) (k : IsD ws p n) : m = n := by
  obtain ⟨w, a, _, b⟩ := h
  obtain ⟨w', a', _, b'⟩ := k
  rw [a] at a'
  cases a'
  exact b.symm.trans b'
theorem IsS.nn {ws : List Wd} {p : Nat} {x y : ByteArray} (h : IsS ws p x) : ¬ IsN ws p y := fun k => by
  obtain ⟨w, a, b, _⟩ := h
  obtain ⟨w', a', b', _⟩ := k
  rw [a] at a'; cases a'; omega
theorem IsS.nd {ws : List Wd} {p n : Nat} {x : ByteArray} (h : IsS ws p x) : ¬ IsD ws p n := fun k => by
  obtain ⟨w, a, b, _⟩ := h
  obtain ⟨w', a', b', _⟩ := k
  rw [a] at a'; cases a'; omega
theorem IsN.nd {ws : List Wd} {p n : Nat} {x : ByteArray} (h : IsN ws p x) : ¬ IsD ws p n := fun k => by
  obtain ⟨w, a, b, _⟩ := h
  obtain ⟨w', a', b', _⟩ := k
  rw [a] at a'; cases a'; omega
theorem IsS.ne {ws : List Wd} {p : Nat} {x y : ByteArray} (h : IsS ws p x) (hxy : x ≠ y) : ¬ IsS ws p y := fun k => hxy (h.one k)
/- terms -/
inductive GT (ws : List Wd) (k : QT) : Pos → Out Tm → Prop
  | «at» {p r} : PT ws k p r → GT ws k (.at p) r
  | bad {y q} : GT ws k (.bad y q) (.bad y q)
theorem GT.from {ws : List Wd} {k : QT} {P : Pos} {r : Out Tm} {N : Nat} (h : GT ws k P r) (hP : P.from N) : r.pos.from N := by
  cases h with
  | bad => trivial
  | «at» h =>
    have := h.far
    cases r with
    | bad e q => trivial
    | ok a q => simp only [Out.far] at this; exact Nat.le_trans hP (by omega)
theorem gt_prod {ws : List Wd} {P : Pos} {r : Out Tm} (h : GT ws .prod P r) : ∃ r0, GT ws .fac P r0 ∧ ∀ x, r0.is x → GT ws (.prodL x) r0.pos r := by
  cases h with
  | bad => exact ⟨_, .bad, fun _ _ => .bad⟩
  | «at» h =>
    cases h with
    | prodBad h => exact ⟨_, .at h, fun _ _ => .bad⟩
    | prod h k => exact ⟨_, .at h, fun x hx => by obtain rfl := of_is hx; exact .at k⟩
theorem gt_prodL_no {ws : List Wd} {P : Pos} {x : Tm} {r : Out Tm} (h : GT ws (.prodL x) P r) (hn : ¬ P.stands ws kStar) : r.pos = P ∧ r.is x := by
  cases h with
  | bad => exact ⟨rfl, is_bad⟩
  | «at» h =>
    cases h with
    | prodStop _ => exact ⟨rfl, is_ok rfl⟩
    | prodLBad h _ => exact absurd h hn
    | prodL h _ _ => exact absurd h hn
theorem gt_prodL_yes {ws : List Wd} {p : Nat} {x : Tm} {r : Out Tm} (h : GT ws (.prodL x) (.at p) r) (hs : IsS ws p kStar) : ∃ r', GT ws .fac (.at (p + 1)) r' ∧ ∀ y, r'.is y → GT ws (.prodL (tMul x y)) r'.pos r := by
  cases h with
  | «at» h =>
    cases h with
    | prodStop h => exact absurd hs h
    | prodLBad _ h => exact ⟨_, .at h, fun _ _ => .bad⟩
    | prodL _ h k => exact ⟨_, .at h, fun y hy => by obtain rfl := of_is hy; exact .at k⟩
theorem gt_sum {ws : List Wd} {P : Pos} {r : Out Tm} (h : GT ws .sum P r) : ∃ r0, GT ws .prod P r0 ∧ ∀ x, r0.is x → GT ws (.sumL x) r0.pos r := by
  cases h with
  | bad => exact ⟨_, .bad, fun _ _ => .bad⟩
  | «at» h =>
    cases h with
    | sumBad h => exact ⟨_, .at h, fun _ _ => .bad⟩
    | sum h k => exact ⟨_, .at h, fun x hx => by obtain rfl := of_is hx; exact .at k⟩
theorem plus_minus : kPlus ≠ kMinus := by decide
theorem gt_sumL_no {ws : List Wd} {P : Pos} {x : Tm} {r : Out Tm} (h : GT ws (.sumL x) P r) (hn : ¬ P.stands ws kPlus) (hm : ¬ P.stands ws kMinus) : r.pos = P ∧ r.is x := by
  cases h with
  | bad => exact ⟨rfl, is_bad⟩
  | «at» h =>
    cases h with
    | sumStop _ _ => exact ⟨rfl, is_ok rfl⟩
    | addBad h _ => exact absurd h hn
    | add h _ _ => exact absurd h hn
    | subBad h _ => exact absurd h hm
    | sub h _ _ => exact absurd h hm
theorem gt_sumL_add {ws : List Wd} {p : Nat} {x : Tm} {r : Out Tm} (h : GT ws (.sumL x) (.at p) r) (hs : IsS ws p kPlus) : ∃ r', GT ws .prod (.at (p + 1)) r' ∧ ∀ y, r'.is y → GT ws (.sumL (tAdd x y)) r'.pos r := by
  cases h with
  | «at» h =>
    cases h with
    | sumStop h _ => exact absurd hs h
    | addBad _ h => exact ⟨_, .at h, fun _ _ => .bad⟩
    | add _ h k => exact ⟨_, .at h, fun y hy => by obtain rfl := of_is hy; exact .at k⟩
    | subBad h _ => exact absurd h (hs.ne plus_minus)
    | sub h _ _ => exact absurd h (hs.ne plus_minus)
theorem gt_sumL_sub {ws : List Wd} {p : Nat} {x : Tm} {r : Out Tm} (h : GT ws (.sumL x) (.at p) r) (hs : IsS ws p kMinus) : ∃ r', GT ws .prod (.at (p + 1)) r' ∧ ∀ y, r'.is y → GT ws (.sumL (tSub x y)) r'.pos r := by
  cases h with
  | «at» h =>
    cases h with
    | sumStop _ h => exact absurd hs h
    | subBad _ h => exact ⟨_, .at h, fun _ _ => .bad⟩
    | sub _ h k => exact ⟨_, .at h, fun y hy => by obtain rfl := of_is hy; exact .at k⟩
    | addBad h _ => exact absurd h (hs.ne plus_minus.symm)
    | add h _ _ => exact absurd h (hs.ne plus_minus.symm)
theorem sq_minus : kSq ≠ kMinus := by decide
theorem gt_num {ws : List Wd} {p n : Nat} {r : Out Tm} (h : GT ws .fac (.at p) r) (hd : IsD ws p n) : r = .ok (.mk 0 n emp []) (p + 1) := by
  cases h with
  | «at» h =>
    cases h with
    | sqBad h _ => exact absurd hd h.nd
    | sqNo h _ _ => exact absurd hd h.nd
    | sq h _ _ => exact absurd hd h.nd
    | negBad h _ => exact absurd hd h.nd
    | neg h _ => exact absurd hd h.nd
    | name h => exact absurd hd h.nd
    | num h => rw [h.one hd]
    | none _ _ _ h => exact absurd hd (h _)
theorem gt_name {ws : List Wd} {p : Nat} {x : ByteArray} {r : Out Tm} (h : GT ws .fac (.at p) r) (hd : IsN ws p x) : r = .ok (.mk 1 0 x []) (p + 1) := by
  cases h with
  | «at» h =>
    cases h with
    | sqBad h _ => exact absurd hd h.nn
    | sqNo h _ _ => exact absurd hd h.nn
    | sq h _ _ => exact absurd hd h.nn
    | negBad h _ => exact absurd hd h.nn
    | neg h _ => exact absurd hd h.nn
    | name h => rw [h.one hd]
    | num h => exact absurd h hd.nd
    | none _ _ h _ => exact absurd hd (h _)
theorem gt_sq {ws : List Wd} {p : Nat} {r : Out Tm} (h : GT ws .fac (.at p) r) (hs : IsS ws p kSq) : ∃ r', GT ws .sum (.at (p + 1)) r' ∧ r'.pos.need ws kQs r.pos ∧ ∀ x, r'.is x → r.is x := by
  cases h with
  | «at» h =>
    cases h with
    | sqBad _ h => exact ⟨_, .at h, .inr ⟨fun h => h, rfl⟩, fun _ _ => is_bad⟩
    | sqNo _ h k => exact ⟨_, .at h, .inr ⟨k, rfl⟩, fun _ _ => is_bad⟩
    | sq _ h k => exact ⟨_, .at h, .inl ⟨_, rfl, k, rfl⟩, fun x hx => is_ok (of_is hx)⟩
    | negBad h _ => exact absurd h (hs.ne sq_minus)
    | neg h _ => exact absurd h (hs.ne sq_minus)
    | name h => exact absurd h hs.nn
    | num h => exact absurd h hs.nd
    | none h _ _ _ => exact absurd hs h
theorem gt_neg {ws : List Wd} {p : Nat} {r : Out Tm} (h : GT ws .fac (.at p) r) (hs : IsS ws p kMinus) : ∃ r', GT ws .fac (.at (p + 1)) r' ∧ r.pos = r'.pos ∧ ∀ x, r'.is x → r.is (tNeg x) := by
  cases h with
  | «at» h =>
    cases h with
    | negBad _ h => exact ⟨_, .at h, rfl, fun _ _ => is_bad⟩
    | neg _ h => exact ⟨_, .at h, rfl, fun x hx => is_ok (by rw [of_is hx])⟩
    | sqBad h _ => exact absurd h (hs.ne sq_minus.symm)
    | sqNo h _ _ => exact absurd h (hs.ne sq_minus.symm)
    | sq h _ _ => exact absurd h (hs.ne sq_minus.symm)
    | name h => exact absurd h hs.nn
    | num h => exact absurd h hs.nd
    | none _ h _ _ => exact absurd hs h
def Pos.kinds (ws : List Wd) (k : Nat) : Pos → Prop
  | .at p => ∃ y, ws[p]? = some y ∧ y.kind = k
  | .bad _ _ => False
theorem gt_none {ws : List Wd} {P : Pos} {r : Out Tm} (h : GT ws .fac P r) (h1 : ¬ P.kinds ws 1) (h0 : ¬ P.kinds ws 0) (hs : ¬ P.stands ws kSq) (hm : ¬ P.stands ws kMinus) : r.pos = P.ref 71 ∧ ∀ x, r.is x := by
  cases h with
  | bad => exact ⟨rfl, fun _ => is_bad⟩
  | «at» h =>
    cases h with
    | negBad h _ => exact absurd h hm
    | neg h _ => exact absurd h hm
    | sqBad h _ => exact absurd h hs
    | sqNo h _ _ => exact absurd h hs
    | sq h _ _ => exact absurd h hs
    | name h => exact absurd (by obtain ⟨u, hu, huk, _⟩ := h; exact ⟨u, hu, huk⟩) h0
    | num h => exact absurd (by obtain ⟨u, hu, huk, _⟩ := h; exact ⟨u, hu, huk⟩) h1
    | none _ _ _ _ => exact ⟨rfl, fun _ => is_bad⟩
/- formulas -/
def Out.lift : Out Fm → Out Rs
  | .ok f q => .ok (.f f) q
  | .bad e q => .bad e q
theorem lift_ok {r : Out Fm} {f : Fm} {q : Nat} (h : r.lift = .ok (.f f) q) : r = .ok f q := by
  cases r with
  | bad e q => cases h
  | ok a q => simp only [Out.lift, Out.ok.injEq, Rs.f.injEq] at h; rw [h.1, h.2]
theorem lift_bad {r : Out Fm} {e q : Nat} (h : r.lift = .bad e q) : r = .bad e q := by
  cases r with
  | ok a q => cases h
  | bad a q => simp only [Out.lift, Out.bad.injEq] at h; rw [h.1, h.2]
inductive GF (ws : List Wd) (k : QF) : Pos → Out Fm → Prop
  | «at» {p r} : PF ws k p r.lift → GF ws k (.at p) r
  | bad {y q} : GF ws k (.bad y q) (.bad y q)
theorem GF.ok {ws : List Wd} {k : QF} {p q : Nat} {f : Fm} (h : PF ws k p (.ok (.f f) q)) : GF ws k (.at p) (.ok f q) := .at h
theorem GF.no {ws : List Wd} {k : QF} {p e q : Nat} (h : PF ws k p (.bad e q)) : GF ws k (.at p) (.bad e q) := .at h
theorem GF.from {ws : List Wd} {k : QF} {P : Pos} {r : Out Fm} {N : Nat} (h : GF ws k P r) (hP : P.from N) : r.pos.from N := by
  cases h with
  | bad => trivial
  | «at» h =>
    have := h.far
    cases r with
    | bad e q => trivial
    | ok a q => simp only [Out.lift, Out.far] at this; exact Nat.le_trans hP (by omega)
/-- a level's further parts, from the left, f what is ahead -/
inductive GL (ws : List Wd) (n : Nat) (f : Fm) : Pos → Out Fm → Prop
  | no {p e q} : PF ws (.tail n) p (.bad e q) → GL ws n f (.at p) (.bad e q)
  | ok {p l q} : PF ws (.tail n) p (.ok (.l l) q) → GL ws n f (.at p) (.ok (foldL (opOf n) f l) q)
  | bad {y q} : GL ws n f (.bad y q) (.bad y q)
theorem fold_L {n : Nat} (hn : n ≠ 1) (f : Fm) (l : List Fm) : fold n f l = foldL (opOf n) f l := by unfold fold; rw [if_neg hn]
theorem gf_lev {ws : List Wd} {n : Nat} (hn : n < 4) (h1 : n ≠ 1) {P : Pos} {r : Out Fm} (h : GF ws (.lev n) P r) : ∃ r0, GF ws (.lev (n + 1)) P r0 ∧ ∀ f, r0.is f → GL ws n f r0.pos r := by
  cases h with
  | bad => exact ⟨_, .bad, fun _ _ => .bad⟩
  | @«at» p r h =>
    generalize hr : r.lift = r1 at h
    cases h with
    | un h => omega
    | levBad _ h => rw [lift_bad hr]; exact ⟨_, .no h, fun _ _ => .bad⟩
    | levTail _ h k => rw [lift_bad hr]; exact ⟨_, .ok h, fun f hf => by obtain rfl := of_is hf; exact .no k⟩
    | lev _ h k => rw [lift_ok hr]; exact ⟨_, .ok h, fun f hf => by obtain rfl := of_is hf; rw [fold_L h1]; exact .ok k⟩
theorem gl_no {ws : List Wd} {n : Nat} {f : Fm} {P : Pos} {r : Out Fm} (h : GL ws n f P r) (hn : ¬ P.stands ws (sgOf n)) : r.pos = P ∧ r.is f := by
  cases h with
  | bad => exact ⟨rfl, is_bad⟩
  | no h =>
    cases h with
    | tailBad _ h _ => exact absurd h hn
    | tailTail _ h _ _ => exact absurd h hn
  | ok h =>
    cases h with
    | stop _ _ => exact ⟨rfl, is_ok rfl⟩
    | tail _ h _ _ => exact absurd h hn
theorem gl_yes {ws : List Wd} {n : Nat} {f : Fm} {p : Nat} {r : Out Fm} (h : GL ws n f (.at p) r) (hs : IsS ws p (sgOf n)) : ∃ r', GF ws (.lev (n + 1)) (.at (p + 1)) r' ∧ ∀ g, r'.is g → GL ws n (fPair (opOf n) f g) r'.pos r := by
  cases h with
  | no h =>
    cases h with
    | tailBad _ _ h => exact ⟨_, .no h, fun _ _ => .bad⟩
    | tailTail _ _ h k => exact ⟨_, .ok h, fun g hg => by obtain rfl := of_is hg; exact .no k⟩
  | ok h =>
    cases h with
    | stop _ h => exact absurd hs h
    | tail _ _ h k => exact ⟨_, .ok h, fun g hg => by obtain rfl := of_is hg; exact .ok k⟩
theorem gf_to {ws : List Wd} {P : Pos} {r : Out Fm} (h : GF ws (.lev 1) P r) : ∃ r0, GF ws (.lev 2) P r0 ∧ (¬ r0.pos.stands ws kTo → r.pos = r0.pos ∧ ∀ f, r0.is f → r.is f) ∧ ∀ q, r0.pos = .at q → IsS ws q kTo → ∃ r', GF ws (.lev 1) (.at (q + 1)) r' ∧ r.pos = r'.pos ∧ ∀ f g, r0.is f → r'.is g → r.is (fPair 5 f g) := by
  cases h with
  | bad => exact ⟨_, .bad, fun _ => ⟨rfl, fun _ _ => is_bad⟩, fun q e => by cases e⟩
  | @«at» p r h =>
    generalize hr : r.lift = r1 at h
    cases h with
    | levBad _ h => rw [lift_bad hr]; exact ⟨_, .no h, fun _ => ⟨rfl, fun _ _ => is_bad⟩, fun q e => by cases e⟩
    | levTail _ h k =>
      rw [lift_bad hr]
      cases k with
      | tailBad h4 hs h2 => exact ⟨_, .ok h, fun hn => absurd hs hn, fun q e _ => by cases e; exact ⟨_, .no (.levBad h4 h2), rfl, fun _ _ _ _ => is_bad⟩⟩
      | tailTail h4 hs h2 h3 => exact ⟨_, .ok h, fun hn => absurd hs hn, fun q e _ => by cases e; exact ⟨_, .no (.levTail h4 h2 h3), rfl, fun _ _ _ _ => is_bad⟩⟩
    | lev h4 h k =>
      rw [lift_ok hr]
      cases k with
      | stop _ hs => exact ⟨_, .ok h, fun _ => ⟨rfl, fun f hf => is_ok (of_is hf)⟩, fun q e hq => by cases e; exact absurd hq hs⟩
      | tail _ hs h2 h3 => exact ⟨_, .ok h, fun hn => absurd hs hn, fun q e _ => by cases e; exact ⟨_, .ok (.lev h4 h2 h3), rfl, fun f g hf hg => is_ok (by rw [of_is hf, of_is hg]; rfl)⟩⟩
theorem gf_four {ws : List Wd} {P : Pos} {r : Out Fm} (h : GF ws (.lev 4) P r) : GF ws .un P r := by
  cases h with
  | bad => exact .bad
  | @«at» p r h =>
    generalize hr : r.lift = r1 at h
    cases h with
    | un h => subst hr; exact .at h
    | levBad h _ => omega
    | levTail h _ _ => omega
    | lev h _ _ => omega
/- quantified: behind the sign, or behind a comma -/
inductive GQ (ws : List Wd) (o : Int) : Pos → Out Fm → Prop
  | bad {y q} : GQ ws o (.bad y q) (.bad y q)
  | no {p e q} : PN ws p (.bad e q) → GQ ws o (.at p) (.bad e q)
  | dot {p l q} : PN ws p (.ok l q) → ¬ IsS ws q kDot → GQ ws o (.at p) (.bad 71 q)
  | un {p l q e q'} : PN ws p (.ok l q) → IsS ws q kDot → PF ws .un (q + 1) (.bad e q') → GQ ws o (.at p) (.bad e q')
  | ok {p l q a q'} : PN ws p (.ok l q) → IsS ws q kDot → PF ws .un (q + 1) (.ok (.f a) q') → GQ ws o (.at p) (.ok (quants o l a) q')
theorem gq_none {ws : List Wd} {o : Int} {P : Pos} {r : Out Fm} (h : GQ ws o P r) (hn : ¬ P.kinds ws 0) : r.pos = P.ref 71 ∧ ∀ f, r.is f := by
  have hh : ∀ p rr, P = .at p → PN ws p rr → rr = .bad 71 p := fun p rr e kk => by
    rw [e] at hn
    cases kk with
    | none _ => rfl
    | last h _ => exact absurd (by obtain ⟨u, hu, huk, _⟩ := h; exact ⟨u, hu, huk⟩) hn
    | bad h _ _ => exact absurd (by obtain ⟨u, hu, huk, _⟩ := h; exact ⟨u, hu, huk⟩) hn
    | more h _ _ => exact absurd (by obtain ⟨u, hu, huk, _⟩ := h; exact ⟨u, hu, huk⟩) hn
  cases h with
  | bad => exact ⟨rfl, fun _ => is_bad⟩
  | no h => cases hh _ _ rfl h; exact ⟨rfl, fun _ => is_bad⟩
  | dot h _ => cases hh _ _ rfl h
  | un h _ _ => cases hh _ _ rfl h
  | ok h _ _ => cases hh _ _ rfl h
/-- a name, and a comma behind it -/
theorem gq_more {ws : List Wd} {o : Int} {p : Nat} {x : ByteArray} {r : Out Fm} (h : GQ ws o (.at p) r) (hx : IsN ws p x) (hc : IsS ws (p + 1) kComma) : ∃ r', GQ ws o (.at (p + 2)) r' ∧ r.pos = r'.pos ∧ ∀ f, r'.is f → r.is (fQ o x f) := by
  have hh : ∀ rr, PN ws p rr → ∃ rr', PN ws (p + 2) rr' ∧ (∀ e q, rr = .bad e q → rr' = .bad e q) ∧ ∀ l q, rr = .ok l q → ∃ l', rr' = .ok l' q ∧ l = x :: l' := fun rr h => by
    cases h with
    | none h => exact absurd hx (h _)
    | last _ h => exact absurd hc h
    | bad h _ k => exact ⟨_, k, fun _ _ e => by cases e; rfl, fun _ _ e => by cases e⟩
    | more h _ k => exact ⟨_, k, fun _ _ e => (by cases e), fun _ _ e => by cases e; exact ⟨_, rfl, by rw [h.one hx]⟩⟩
  cases h with
  | no h =>
    obtain ⟨rr', h', k, _⟩ := hh _ h
    cases k _ _ rfl
    exact ⟨_, .no h', rfl, fun _ _ => is_bad⟩
  | dot h a =>
    obtain ⟨rr', h', _, k⟩ := hh _ h
    obtain ⟨l', rfl, _⟩ := k _ _ rfl
    exact ⟨_, .dot h' a, rfl, fun _ _ => is_bad⟩
  | un h a b =>
    obtain ⟨rr', h', _, k⟩ := hh _ h
    obtain ⟨l', rfl, _⟩ := k _ _ rfl
    exact ⟨_, .un h' a b, rfl, fun _ _ => is_bad⟩
  | ok h a b =>
    obtain ⟨rr', h', _, k⟩ := hh _ h
    obtain ⟨l', rfl, rfl⟩ := k _ _ rfl
    exact ⟨_, .ok h' a b, rfl, fun f hf => is_ok (by rw [of_is hf]; rfl)⟩
/-- the last name -/
theorem gq_last {ws : List Wd} {o : Int} {p : Nat} {x : ByteArray} {r : Out Fm} (h : GQ ws o (.at p) r) (hx : IsN ws p x) (hc : ¬ IsS ws (p + 1) kComma) : ∀ P', (Pos.at (p + 1)).need ws kDot P' → ∃ r', GF ws .un P' r' ∧ r.pos = r'.pos ∧ ∀ f, r'.is f → r.is (fQ o x f) := by
  have hh : ∀ rr, PN ws p rr → rr = .ok [x] (p + 1) := fun rr h => by
    cases h with
    | none h => exact absurd hx (h _)
    | last h _ => rw [h.one hx]
    | bad _ h _ => exact absurd h hc
    | more _ h _ => exact absurd h hc
  intro P' hP
  cases h with
  | no h => cases hh _ h
  | dot h a =>
    cases hh _ h
    rcases hP with ⟨q, e, hs, rfl⟩ | ⟨_, rfl⟩
    · cases e; exact absurd hs a
    · exact ⟨_, .bad, rfl, fun _ _ => is_bad⟩
  | un h a b =>
    cases hh _ h
    rcases hP with ⟨q, e, hs, rfl⟩ | ⟨hn, rfl⟩
    · cases e; exact ⟨_, .no b, rfl, fun _ _ => is_bad⟩
    · exact absurd a hn
  | ok h a b =>
    cases hh _ h
    rcases hP with ⟨q, e, hs, rfl⟩ | ⟨hn, rfl⟩
    · cases e; exact ⟨_, .ok b, rfl, fun f hf => is_ok (by rw [of_is hf]; rfl)⟩
    · exact absurd a hn
/- an atom -/
inductive GA (ws : List Wd) : Pos → Out Fm → Prop
  | «at» {p r} : PA ws p r → GA ws (.at p) r
  | bad {y q} : GA ws (.bad y q) (.bad y q)
/-- the sign of an atom: its number, where one stands -/
inductive GR (ws : List Wd) : Pos → Option Nat → Pos → Prop
  | bad {y q} : GR ws (.bad y q) none (.bad y q)
  | none {p} : (∀ x ∈ rels, ¬ IsS ws p x) → GR ws (.at p) none (.bad 71 p)
  | some {p i} : i < 7 → IsS ws p (rels.getD i emp) → GR ws (.at p) (some i) (.at (p + 1))
/-- behind the second term of a congruence: the word mod, a number -/
inductive GM (ws : List Wd) : Pos → Out Nat → Prop
  | bad {y q} : GM ws (.bad y q) (.bad y q)
  | none {p} : (∀ n, ¬ IsD ws p n) → GM ws (.at p) (.bad 71 p)
  | zero {p} : IsD ws p 0 → GM ws (.at p) (.bad 92 p)
  | ok {p n} : IsD ws p n → n ≠ 0 → GM ws (.at p) (.ok n (p + 1))
theorem rels_one : ∀ i, i < 7 → ∀ j, j < 7 → rels.getD i emp = rels.getD j emp → i = j := by decide +kernel
theorem rels_in (i : Nat) (h : i < 7) : rels.getD i emp ∈ rels := by
  rw [List.getD_eq_getElem?_getD, List.getElem?_eq_getElem (show i < rels.length from h)]
  exact List.getElem_mem _
theorem ga_of {ws : List Wd} {P : Pos} {r : Out Fm} (h : GA ws P r) : ∃ r1, GT ws .sum P r1 ∧ ∀ i P2, GR ws r1.pos i P2 → ∃ r3, GT ws .sum P2 r3 ∧
    (i ≠ some 6 → r.pos = r3.pos ∧ ∀ a b k, i = some k → r1.is a → r3.is b → r.is (.mk (9 + (k : Nat)) emp 0 [a, b] [])) ∧ (i = none → ∀ f, r.is f) ∧
    (i = some 6 → ∀ P4, r3.pos.need ws kMod P4 → ∃ r5, GM ws P4 r5 ∧ r.pos = r5.pos ∧ ∀ a b n, r1.is a → r3.is b → r5.is n → r.is (.mk 15 emp n [a, b] [])) := by
  cases h with
  | bad => exact ⟨_, .bad, fun i P2 h => by cases h; exact ⟨_, .bad, fun _ => ⟨rfl, fun _ _ _ e => by cases e⟩, fun _ _ => is_bad, fun e => by cases e⟩⟩
  | «at» h =>
    cases h with
    | bad1 h => exact ⟨_, .at h, fun i P2 h => by cases h; exact ⟨_, .bad, fun _ => ⟨rfl, fun _ _ _ e => by cases e⟩, fun _ _ => is_bad, fun e => by cases e⟩⟩
    | none h hn =>
      refine ⟨_, .at h, fun i P2 h => ?_⟩
      cases h with
      | none _ => exact ⟨_, .bad, fun _ => ⟨rfl, fun _ _ _ e => by cases e⟩, fun _ _ => is_bad, fun e => by cases e⟩
      | some hi hs => exact absurd hs (hn _ (rels_in _ hi))
    | @bad2 a q x e q' h hx hs k =>
      refine ⟨_, .at h, fun i P2 h => ?_⟩
      cases h with
      | none hn => exact absurd hs (hn _ hx)
      | some hi hs => exact ⟨_, .at k, fun _ => ⟨rfl, fun _ _ _ _ _ _ => is_bad⟩, fun _ _ => is_bad, fun _ P4 hP => by
          rcases hP with ⟨q, e, _, _⟩ | ⟨_, rfl⟩
          · cases e
          · exact ⟨_, .bad, rfl, fun _ _ _ _ _ _ => is_bad⟩⟩
    | @rel a q i b q' h hi hs k =>
      refine ⟨_, .at h, fun j P2 h => ?_⟩
      cases h with
      | none hn => exact absurd hs (hn _ (rels_in _ (by omega)))
      | @some _ j hj hs' =>
        obtain rfl := rels_one _ (by omega) _ hj (hs.one hs')
        exact ⟨_, .at k, fun _ => ⟨rfl, fun a b k e ha hb => by cases e; exact is_ok (by rw [of_is ha, of_is hb])⟩, fun e => (by cases e), fun e => by cases e; omega⟩
    | @noMod a q b q' h hs k hm =>
      refine ⟨_, .at h, fun j P2 h => ?_⟩
      cases h with
      | none hn => exact absurd hs (hn _ (rels_in _ (by omega)))
      | @some _ j hj hs' =>
        obtain rfl := rels_one _ (by omega) _ hj (hs.one hs')
        exact ⟨_, .at k, fun e => absurd rfl e, fun e => (by cases e), fun _ P4 hP => by
          rcases hP with ⟨q, e, hq, _⟩ | ⟨_, rfl⟩
          · cases e; exact absurd hq hm
          · exact ⟨_, .bad, rfl, fun _ _ _ _ _ _ => is_bad⟩⟩
    | @noNum a q b q' h hs k hm hd =>
      refine ⟨_, .at h, fun j P2 h => ?_⟩
      cases h with
      | none hn => exact absurd hs (hn _ (rels_in _ (by omega)))
      | @some _ j hj hs' =>
        obtain rfl := rels_one _ (by omega) _ hj (hs.one hs')
        exact ⟨_, .at k, fun e => absurd rfl e, fun e => (by cases e), fun _ P4 hP => by
          rcases hP with ⟨q, e, hq, rfl⟩ | ⟨hn, _⟩
          · cases e; exact ⟨_, .none hd, rfl, fun _ _ _ _ _ _ => is_bad⟩
          · exact absurd hm hn⟩
    | @zero a q b q' h hs k hm hd =>
      refine ⟨_, .at h, fun j P2 h => ?_⟩
      cases h with
      | none hn => exact absurd hs (hn _ (rels_in _ (by omega)))
      | @some _ j hj hs' =>
        obtain rfl := rels_one _ (by omega) _ hj (hs.one hs')
        exact ⟨_, .at k, fun e => absurd rfl e, fun e => (by cases e), fun _ P4 hP => by
          rcases hP with ⟨q, e, hq, rfl⟩ | ⟨hn, _⟩
          · cases e; exact ⟨_, .zero hd, rfl, fun _ _ _ _ _ _ => is_bad⟩
          · exact absurd hm hn⟩
    | @cong a q b q' n h hs k hm hd h0 =>
      refine ⟨_, .at h, fun j P2 h => ?_⟩
      cases h with
      | none hn => exact absurd hs (hn _ (rels_in _ (by omega)))
      | @some _ j hj hs' =>
        obtain rfl := rels_one _ (by omega) _ hj (hs.one hs')
        exact ⟨_, .at k, fun e => absurd rfl e, fun e => (by cases e), fun _ P4 hP => by
          rcases hP with ⟨q, e, hq, rfl⟩ | ⟨hn, _⟩
          · cases e; exact ⟨_, .ok hd h0, rfl, fun a b n ha hb hn => is_ok (by rw [of_is ha, of_is hb, of_is hn])⟩
          · exact absurd hm hn⟩
/- a unary, by what stands there -/
theorem uns_apart : ∀ x ∈ [kNot, kEx, kAll, kOpen, kTrue, kFalse], ∀ y ∈ [kNot, kEx, kAll, kOpen, kTrue, kFalse], (x == y) = decide (x = y) := by decide +kernel
abbrev uns : List ByteArray := [kNot, kEx, kAll, kOpen, kTrue, kFalse]
theorem noUn_not {ws : List Wd} {p : Nat} {x : ByteArray} (h : noUn ws p) (hx : x ∈ uns) : ¬ IsS ws p x := h x hx
theorem qu_two {x : ByteArray} {o : Int} (h : (x, o) ∈ [(kEx, (7 : Int)), (kAll, 8)]) : (x = kEx ∧ o = 7) ∨ (x = kAll ∧ o = 8) := by
  simp only [List.mem_cons, Prod.mk.injEq, List.not_mem_nil, or_false] at h
  exact h
/-- the form of a unary's sign -/
inductive GU (ws : List Wd) (p : Nat) (r : Out Fm) : Prop
  | not : IsS ws p kNot → (∃ r', GF ws .un (.at (p + 1)) r' ∧ r.pos = r'.pos ∧ ∀ f, r'.is f → r.is (fNot f)) → GU ws p r
  | qu {x o} : (x = kEx ∧ o = 7) ∨ (x = kAll ∧ o = 8) → IsS ws p x → GQ ws o (.at (p + 1)) r → GU ws p r
  | br : IsS ws p kOpen → (∃ r', GF ws (.lev 0) (.at (p + 1)) r' ∧ r'.pos.need ws kShut r.pos ∧ ∀ f, r'.is f → r.is f) → GU ws p r
  | tru : IsS ws p kTrue → r = .ok fTrue (p + 1) → GU ws p r
  | fls : IsS ws p kFalse → r = .ok fFalse (p + 1) → GU ws p r
  | atom : noUn ws p → GA ws (.at p) r → GU ws p r
theorem gu_of {ws : List Wd} {p : Nat} {r : Out Fm} (h : GF ws .un (.at p) r) : GU ws p r := by
  cases h with
  | «at» h =>
    generalize hr : r.lift = r1 at h
    cases h with
    | notBad h k => rw [lift_bad hr]; exact .not h ⟨_, .no k, rfl, fun _ _ => is_bad⟩
    | not h k => rw [lift_ok hr]; exact .not h ⟨_, .ok k, rfl, fun f hf => is_ok (by rw [of_is hf])⟩
    | quNames h s k => rw [lift_bad hr]; exact .qu (qu_two h) s (.no k)
    | quDot h s k d => rw [lift_bad hr]; exact .qu (qu_two h) s (.dot k d)
    | quBad h s k d u => rw [lift_bad hr]; exact .qu (qu_two h) s (.un k d u)
    | qu h s k d u => rw [lift_ok hr]; exact .qu (qu_two h) s (.ok k d u)
    | brBad h k => rw [lift_bad hr]; exact .br h ⟨_, .no k, .inr ⟨fun h => h, rfl⟩, fun _ _ => is_bad⟩
    | brNo h k n => rw [lift_bad hr]; exact .br h ⟨_, .ok k, .inr ⟨n, rfl⟩, fun _ _ => is_bad⟩
    | br h k n => rw [lift_ok hr]; exact .br h ⟨_, .ok k, .inl ⟨_, rfl, n, rfl⟩, fun f hf => is_ok (of_is hf)⟩
    | tru h => rw [lift_ok hr]; exact .tru h rfl
    | fls h => rw [lift_ok hr]; exact .fls h rfl
    | atomBad h k => rw [lift_bad hr]; exact .atom h (.at k)
    | atom h k => rw [lift_ok hr]; exact .atom h (.at k)
end Go.Proofs.YtabfhdmcljdjhaaGreatDoor.Gl
/- The document's put, Together. -/
namespace Go.Proofs.YtabfhdmcljdjhaaGreatDoor.Gl
open Go.RowKit
set_option linter.unusedVariables false

theorem Tryz.infoStr : (Tryz.prog.info? 9).map (fun i => (i.zero, i.size, i.bytes)) = some (some (.string emp), 1, 16) := by kernel_rfl
theorem owns_below {w w' : World} {base : Nat} {e : TypeId} {v : Value} {n : Nat} {xs : List Value} (h : w.ownsRow base e 1 v n xs) (hb : Below w.heap.size w w') : w'.ownsRow base e 1 v n xs := by
  refine ⟨h.1, ?_⟩
  rcases h.2 with hn | ⟨g, cap, cur, rfl, hbg, hgg, rest⟩
  · exact .inl hn
  · refine .inr ⟨g, cap, cur, rfl, hbg, ?_, rest⟩
    rw [hb.block g (Array.getElem?_eq_some_iff.1 hgg).1]
    exact hgg
theorem rds_of_owns {w : World} {base : Nat} {t : TypeId} {v : Value} {k : Nat} {ss : List ByteArray} (h : w.ownsRow base t 1 v k (cellsS ss)) : ∃ ro cr, v = .slice ro k cr ∧ RdS w ro k cr ss := by
  have h' := h
  obtain ⟨hl, hv⟩ := h'
  simp only [List.length_map, Nat.mul_one] at hl
  rcases hv with ⟨rfl, hn⟩ | ⟨g, cap, cur, rfl, hg, hh, hnc, hcm, hcs, hx⟩
  · subst hn
    exact ⟨none, 0, rfl, hl, Nat.le_refl _, by omega, fun _ => rfl, fun i hi => by omega⟩
  · refine ⟨some ⟨g, 0, none⟩, cap, rfl, hl, hnc, hcm, (fun h => nomatch h), (fun i hi => ⟨g, 0, rfl, ?_⟩)⟩
    rw [Nat.zero_add, h.cellAt i (by omega), List.getElem?_map, List.getElem?_eq_getElem (by omega)]
    simp [List.getD_eq_getElem?_getD, List.getElem?_eq_getElem (show i < ss.length by omega)]
theorem cell_new1 (W : World) (v : Value) (t : TypeId) : (W.alloc (.cells #[v] t)).cell? ⟨W.heap.size, 0, none⟩ = some v := by simp
theorem size_new1 {W : World} {n : Nat} (h : n ≤ W.heap.size) (a : Obj) : n ≤ (W.alloc a).heap.size := by simp; omega
/-- 'out = append(out, s)', the new element in a block g of its own -/
theorem wp_pushS {ops : Array Oper} {rest : List Oper} {o : Oper} {a : Act} {Q : Exit → Act → World → Prop} (W0 Wc : World) (B base : Nat) (hgd : o.guard = none) (s x : Operand)
    (ho : o.op = .call { callee := .builtin .append, args := #[s, x], argTypes := #[131, 131] }) (v : Value) (k : Nat) (O : List ByteArray) (hs : a.eval s = v) (g : Nat) (d : ByteArray) (hx : a.eval x = .slice (some ⟨g, 0, none⟩) 1 1)
    (hown : Wc.ownsRow base 9 1 v k (cellsS O)) (hcell : Wc.cell? ⟨g, 0, none⟩ = some (.string d)) (hbase : base ≤ Wc.heap.size) (hk : (k + 1) * 16 ≤ 140737488355328) (hbel : Below B W0 Wc) (hB : B ≤ base)
    (h : ∀ v' w', w'.ownsRow base 9 1 v' (k + 1) (cellsS (O ++ [d])) → Below B W0 w' → wpList Tryz.prog ops Q rest (a.put o.dst v') w') : wpList Tryz.prog ops Q (o :: rest) a Wc := by
  obtain ⟨i0, hi, hz0, hz1, hz2⟩ := info_parts Tryz.infoStr
  refine wpList_append_own _ hgd s x 131 ho base 9 i0 (.string emp) 1 16 Tryz.underlying131 hi hz0 hz1 hz2 rfl (by decide) _ k _ hs hown ⟨g, 0, none⟩ 1 1 [.string d] hx rfl ?_ ?_ (by unfold maxLen; omega) (by omega) hbase ?_
  · intro j u hj
    match j, hj with
    | 0, hj => simp at hj; subst hj; simpa [Addr.add] using hcell
  · intro u hu; simp at hu; subst hu; rfl
  · intro v' w' h1 h2 _
    refine h v' w' (by simpa [cellsS] using h1) (hbel.grown h2 (by omega) ?_)
    intro q hq
    have := hown.lt q hq
    omega
def ltS (x y : ByteArray) : Bool := Op.bytesLess x.toList y.toList
def leS (x y : ByteArray) : Bool := Op.bytesLess x.toList y.toList || x.toList == y.toList
/-- a name put into a rising list -/
def putL (s : ByteArray) : List ByteArray → List ByteArray
  | [] => [s]
  | x :: l => if leS s x = true then (if ltS s x = true then s :: x :: l else x :: l) else x :: putL s l
theorem putL_length (s : ByteArray) (l : List ByteArray) : (putL s l).length ≤ l.length + 1 := by
  induction l with
  | nil => simp [putL]
  | cons x l ih =>
    rw [putL]
    split
    · split <;> simp
    · simp only [List.length_cons]; omega
theorem take_snoc (T : List ByteArray) (k : Nat) (h : k < T.length) : T.take (k + 1) = T.take k ++ [T.getD k emp] := by
  rw [List.take_succ_eq_append_getElem h, sgetD_of h]
theorem drop_cons (T : List ByteArray) (k : Nat) (h : k < T.length) : T.drop k = T.getD k emp :: T.drop (k + 1) := by
  rw [List.drop_eq_getElem_cons h, sgetD_of h]
end Go.Proofs.YtabfhdmcljdjhaaGreatDoor.Gl
/- The document's Together. -/
namespace Go.Proofs.YtabfhdmcljdjhaaGreatDoor.Gl
open Go.RowKit
set_option linter.unusedVariables false

theorem owns_mono {w : World} {base base' : Nat} {e : TypeId} {v : Value} {n : Nat} {xs : List Value} (h : w.ownsRow base e 1 v n xs) (hb : base' ≤ base) : w.ownsRow base' e 1 v n xs := by
  refine ⟨h.1, ?_⟩
  rcases h.2 with hn | ⟨g, cap, cur, rfl, hbg, rest⟩
  · exact .inl hn
  · exact .inr ⟨g, cap, cur, rfl, by omega, rest⟩
/-- the names of a list, rising, each once -/
def togL (l : List ByteArray) : List ByteArray := l.foldl (fun o s => putL s o) []
theorem tog_take (T : List ByteArray) (k : Nat) (h : k < T.length) : togL (T.take (k + 1)) = putL (T.getD k emp) (togL (T.take k)) := by
  unfold togL
  rw [take_snoc T k h, List.foldl_append]
  rfl
theorem fold_length (l O : List ByteArray) : (l.foldl (fun o s => putL s o) O).length ≤ O.length + l.length := by
  induction l generalizing O with
  | nil => simp
  | cons x l ih =>
    have h1 := ih (putL x O)
    have h2 := putL_length x O
    simp only [List.foldl_cons, List.length_cons]
    omega
theorem tog_length (l : List ByteArray) : (togL l).length ≤ l.length := by
  have := fold_length l []
  simpa [togL] using this
end Go.Proofs.YtabfhdmcljdjhaaGreatDoor.Gl
