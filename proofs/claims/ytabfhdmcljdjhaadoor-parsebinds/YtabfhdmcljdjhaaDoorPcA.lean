/- Trees of formulas and terms, and what there is to measure: plain mathematics. -/
import Derived.RowKit
import Derived.Test.YtabfhdmcljdjhaaDoorLxF
import Derived.Deep.RegionWith
import Derived.Deep.RegionHeld3
import Derived.Deep.QuietTactic
import Derived.BigQuiet
import Derived.Deep.DrawnRows
import Derived.Test.YtabfhdmcljdjhaaDoorLxG
namespace Go.Proofs.YtabfhdmcljdjhaaDoor.Gl
set_option linter.unusedVariables false

inductive Tm where
  | mk (op num : Int) (name : ByteArray) (args : List Tm)
inductive Fm where
  | mk (op : Int) (name : ByteArray) (mod : Int) (terms : List Tm) (args : List Fm)
def Tm.op : Tm → Int | .mk o _ _ _ => o
def Tm.num : Tm → Int | .mk _ n _ _ => n
def Tm.name : Tm → ByteArray | .mk _ _ n _ => n
def Tm.args : Tm → List Tm | .mk _ _ _ a => a
def Fm.op : Fm → Int | .mk o _ _ _ _ => o
def Fm.name : Fm → ByteArray | .mk _ n _ _ _ => n
def Fm.mod : Fm → Int | .mk _ _ m _ _ => m
def Fm.terms : Fm → List Tm | .mk _ _ _ t _ => t
def Fm.args : Fm → List Fm | .mk _ _ _ _ a => a
/- how many nodes -/
mutual
def Tm.size : Tm → Nat | .mk _ _ _ a => Tm.sizeL a + 1
def Tm.sizeL : List Tm → Nat | [] => 0 | t :: r => Tm.size t + Tm.sizeL r
end
mutual
def Fm.size : Fm → Nat | .mk _ _ _ t a => Tm.sizeL t + Fm.sizeL a + 1
def Fm.sizeL : List Fm → Nat | [] => 0 | f :: r => Fm.size f + Fm.sizeL r
end
/- how deep -/
mutual
def Tm.deep : Tm → Nat | .mk _ _ _ a => Tm.deepL a + 1
def Tm.deepL : List Tm → Nat | [] => 0 | t :: r => max (Tm.deep t) (Tm.deepL r)
end
mutual
def Fm.deep : Fm → Nat | .mk _ _ _ t a => max (Tm.deepL t) (Fm.deepL a) + 1
def Fm.deepL : List Fm → Nat | [] => 0 | f :: r => max (Fm.deep f) (Fm.deepL r)
end
theorem Tm.size_mem {t : Tm} {l : List Tm} (h : t ∈ l) : t.size ≤ Tm.sizeL l := by
  induction l with
  | nil => cases h
  | cons x r ih =>
    rw [Tm.sizeL]
    rcases List.mem_cons.1 h with rfl | h
    · omega
    · have := ih h; omega
theorem Fm.size_mem {f : Fm} {l : List Fm} (h : f ∈ l) : f.size ≤ Fm.sizeL l := by
  induction l with
  | nil => cases h
  | cons x r ih =>
    rw [Fm.sizeL]
    rcases List.mem_cons.1 h with rfl | h
    · omega
    · have := ih h; omega
theorem Tm.ind {P : Tm → Prop} (h : ∀ o n x a, (∀ t ∈ a, P t) → P (.mk o n x a)) : ∀ t, P t := by
  have key : ∀ k t, Tm.size t ≤ k → P t := by
    intro k
    induction k with
    | zero => intro t ht; cases t with | mk o n x a => rw [Tm.size] at ht; omega
    | succ k ih =>
      intro t ht
      cases t with
      | mk o n x a =>
        rw [Tm.size] at ht
        exact h o n x a (fun t hm => ih t (by have := Tm.size_mem hm; omega))
  exact fun t => key _ t (Nat.le_refl _)
theorem Fm.ind {P : Fm → Prop} (h : ∀ o x m t a, (∀ f ∈ a, P f) → P (.mk o x m t a)) : ∀ f, P f := by
  have key : ∀ k f, Fm.size f ≤ k → P f := by
    intro k
    induction k with
    | zero => intro f hf; cases f with | mk o x m t a => rw [Fm.size] at hf; omega
    | succ k ih =>
      intro f hf
      cases f with
      | mk o x m t a =>
        rw [Fm.size] at hf
        exact h o x m t a (fun f hm => ih f (by have := Fm.size_mem hm; omega))
  exact fun f => key _ f (Nat.le_refl _)
/- the meter: nodes met, the deepest, the error -/
structure St where
  n : Nat
  d : Nat
  e : Nat
def St.node (dp : Nat) (good : Bool) (s : St) : St := ⟨s.n + 1, max s.d dp, if 500 < s.n + 1 then 73 else if 40 < dp then 72 else if good = true then s.e else 3⟩
/- is a node well made? 'nm' tells the names -/
def wT (nm : ByteArray → Bool) (o n : Int) (x : ByteArray) (len : Nat) : Bool :=
  if o = 0 then decide (0 ≤ n) && (x.toList == []) && decide (len = 0)
  else if o = 1 then decide (n = 0) && nm x && decide (len = 0)
  else if o = 2 then decide (n = 0) && (x.toList == []) && decide (len = 1)
  else if o = 3 ∨ o = 4 ∨ o = 5 then decide (n = 0) && (x.toList == []) && decide (len = 2)
  else false
def wellT (nm : ByteArray → Bool) : Tm → Bool
  | .mk o n x a => wT nm o n x a.length
def quant (o : Int) : Bool := decide (o = 7 ∨ o = 8)
def wF (nm : ByteArray → Bool) (o : Int) (x : ByteArray) (m : Int) (terms args : Nat) : Bool :=
  if o = 7 ∨ o = 8 then nm x && decide (m = 0) && decide (terms = 0) && decide (args = 1)
  else if o = 15 then (x.toList == []) && decide (1 ≤ m) && decide (terms = 2) && decide (args = 0)
  else if 0 ≤ o ∧ o ≤ 14 then (x.toList == []) && decide (m = 0) && decide (terms = if 9 ≤ o then 2 else 0) && decide (args = if o = 2 then 1 else if 3 ≤ o ∧ o ≤ 6 then 2 else 0)
  else false
def wellF (nm : ByteArray → Bool) : Fm → Bool
  | .mk o x m t a => wF nm o x m t.length a.length
mutual
def meterT (nm : ByteArray → Bool) : Tm → Nat → St → St
  | .mk o n x a, dp, s => meterTL nm a (dp + 1) (s.node dp (wellT nm (.mk o n x a)))
def meterTL (nm : ByteArray → Bool) : List Tm → Nat → St → St
  | [], _, s => s
  | t :: r, dp, s => if s.e = 0 then meterTL nm r dp (meterT nm t dp s) else s
end
mutual
def meterF (nm : ByteArray → Bool) : Fm → Nat → St → St
  | .mk o x m t a, dp, s => meterFL nm a (dp + 1) (meterTL nm t (dp + 1) (s.node dp (wellF nm (.mk o x m t a))))
def meterFL (nm : ByteArray → Bool) : List Fm → Nat → St → St
  | [], _, s => s
  | f :: r, dp, s => if s.e = 0 then meterFL nm r dp (meterF nm f dp s) else s
end
def chk (nm : ByteArray → Bool) (f : Fm) : Nat := (meterF nm f 1 ⟨0, 0, 0⟩).e
/- all nodes well made -/
mutual
def Tm.all (P : Tm → Bool) : Tm → Bool | .mk o n x a => P (.mk o n x a) && Tm.allL P a
def Tm.allL (P : Tm → Bool) : List Tm → Bool | [] => true | t :: r => Tm.all P t && Tm.allL P r
end
mutual
def Fm.all (P : Tm → Bool) (Q : Fm → Bool) : Fm → Bool | .mk o x m t a => Q (.mk o x m t a) && Tm.allL P t && Fm.allL P Q a
def Fm.allL (P : Tm → Bool) (Q : Fm → Bool) : List Fm → Bool | [] => true | f :: r => Fm.all P Q f && Fm.allL P Q r
end
theorem meterTL_err (nm : ByteArray → Bool) (l : List Tm) (dp : Nat) (s : St) (h : s.e ≠ 0) : meterTL nm l dp s = s := by
  cases l with
  | nil => rw [meterTL]
  | cons t r => rw [meterTL, if_neg h]
theorem meterFL_err (nm : ByteArray → Bool) (l : List Fm) (dp : Nat) (s : St) (h : s.e ≠ 0) : meterFL nm l dp s = s := by
  cases l with
  | nil => rw [meterFL]
  | cons t r => rw [meterFL, if_neg h]
/-- what the meter says of k nodes, the deepest at dd, all well made or not -/
def Fine (k dd : Nat) (good : Bool) (s s' : St) : Prop :=
  (s.e = 0 → s.n + k ≤ 500 → dd ≤ 40 → good = true → s' = ⟨s.n + k, max s.d dd, 0⟩) ∧ (s.e = 0 → s'.e = 0 → s.n ≤ 500 → s.n + k ≤ 500 ∧ dd ≤ 40 ∧ good = true)
theorem Fine.refl (s : St) : Fine 0 0 true s s :=
  ⟨fun h0 _ _ _ => by cases s; simp_all, fun _ _ h => ⟨by omega, by omega, rfl⟩⟩
theorem Fine.comp {k1 d1 k2 d2 : Nat} {g1 g2 : Bool} {s s1 s2 : St} (h1 : Fine k1 d1 g1 s s1) (h2 : Fine k2 d2 g2 s1 s2) (he : s1.e ≠ 0 → s2.e ≠ 0) : Fine (k1 + k2) (max d1 d2) (g1 && g2) s s2 := by
  refine ⟨fun a0 a1 a2 a3 => ?_, fun a0 a1 a2 => ?_⟩
  · rw [Bool.and_eq_true] at a3
    have e1 := h1.1 a0 (by omega) (by omega) a3.1
    have e2 := h2.1 (by rw [e1]) (by rw [e1]; show s.n + k1 + k2 ≤ 500; omega) (by omega) a3.2
    rw [e2, e1]
    congr 1
    · show s.n + k1 + k2 = _; omega
    · show max (max s.d d1) d2 = _; omega
  · have e0 : s1.e = 0 := Decidable.byContradiction (fun hc => he hc a1)
    obtain ⟨b1, b2, b3⟩ := h1.2 a0 e0 a2
    have e1 := h1.1 a0 b1 b2 b3
    obtain ⟨c1, c2, c3⟩ := h2.2 e0 a1 (by rw [e1]; exact b1)
    rw [e1] at c1
    have c1' : s.n + k1 + k2 ≤ 500 := c1
    exact ⟨by omega, by omega, by rw [b3, c3]; rfl⟩
theorem node_fine (dp : Nat) (good : Bool) (s : St) : Fine 1 dp good s (s.node dp good) := by
  unfold Fine St.node
  refine ⟨fun h0 h1 h2 h3 => ?_, fun h0 h1 h2 => ?_⟩
  · rw [if_neg (by omega), if_neg (by omega), if_pos h3, h0]
  · dsimp only at h1
    split at h1
    · cases h1
    · split at h1
      · cases h1
      · split at h1
        · rename_i a b c
          exact ⟨by omega, by omega, c⟩
        · cases h1
theorem node_bad {dp : Nat} {good : Bool} {s : St} (h : s.e ≠ 0) : (s.node dp good).e ≠ 0 := by
  unfold St.node
  dsimp only
  split
  · decide
  · split
    · decide
    · split
      · exact h
      · decide
/-- the depth of a list of parts whose first lies at dp -/
def under (dp m : Nat) : Nat := if m = 0 then 0 else dp - 1 + m
theorem Tm.deep_pos (t : Tm) : 1 ≤ t.deep := by cases t; rw [Tm.deep]; omega
theorem Fm.deep_pos (t : Fm) : 1 ≤ t.deep := by cases t; rw [Fm.deep]; omega
theorem meterT_bad (nm : ByteArray → Bool) (t : Tm) (dp : Nat) (s : St) (h : s.e ≠ 0) : (meterT nm t dp s).e ≠ 0 := by
  cases t with
  | mk o n x a => rw [meterT, meterTL_err _ _ _ _ (node_bad h)]; exact node_bad h
theorem meterTL_bad (nm : ByteArray → Bool) (l : List Tm) (dp : Nat) (s : St) (h : s.e ≠ 0) : (meterTL nm l dp s).e ≠ 0 := by
  rw [meterTL_err _ _ _ _ h]; exact h
theorem meterFL_bad (nm : ByteArray → Bool) (l : List Fm) (dp : Nat) (s : St) (h : s.e ≠ 0) : (meterFL nm l dp s).e ≠ 0 := by
  rw [meterFL_err _ _ _ _ h]; exact h
theorem Fine.vac {k dd : Nat} {g : Bool} {s s' : St} (h : s.e ≠ 0) : Fine k dd g s s' := ⟨fun h0 => absurd h0 h, fun h0 => absurd h0 h⟩
theorem meterTL_fine {nm : ByteArray → Bool} {l : List Tm} (hl : ∀ t ∈ l, ∀ dp s, 1 ≤ dp → Fine t.size (dp - 1 + t.deep) (t.all (wellT nm)) s (meterT nm t dp s)) (dp : Nat) (hdp : 1 ≤ dp) :
    ∀ s, Fine (Tm.sizeL l) (under dp (Tm.deepL l)) (Tm.allL (wellT nm) l) s (meterTL nm l dp s) := by
  induction l with
  | nil => intro s; rw [Tm.sizeL, Tm.deepL, Tm.allL, meterTL]; exact Fine.refl s
  | cons t r ih =>
    intro s
    by_cases h0 : s.e = 0
    · rw [Tm.sizeL, Tm.allL, meterTL, Tm.deepL, if_pos h0]
      have := (hl t (List.mem_cons_self ..) dp s hdp).comp (ih (fun u hu => hl u (List.mem_cons_of_mem _ hu)) (meterT nm t dp s)) (meterTL_bad nm r dp _)
      have hp := t.deep_pos
      have e : under dp (max t.deep (Tm.deepL r)) = max (dp - 1 + t.deep) (under dp (Tm.deepL r)) := by
        unfold under
        rw [if_neg (by omega)]
        split <;> omega
      rw [e]
      exact this
    · exact Fine.vac h0
theorem meterT_fine (nm : ByteArray → Bool) : ∀ t dp s, 1 ≤ dp → Fine (Tm.size t) (dp - 1 + Tm.deep t) (Tm.all (wellT nm) t) s (meterT nm t dp s) := by
  refine Tm.ind (fun o n x a ih dp s hdp => ?_)
  rw [Tm.size, Tm.deep, Tm.all, meterT]
  have := (node_fine dp (wellT nm (.mk o n x a)) s).comp (meterTL_fine (nm := nm) ih (dp + 1) (by omega) (s.node dp (wellT nm (.mk o n x a)))) (meterTL_bad nm a (dp + 1) _)
  rw [Nat.add_comm 1] at this
  have e : dp - 1 + (Tm.deepL a + 1) = max dp (under (dp + 1) (Tm.deepL a)) := by
    unfold under
    split <;> omega
  rw [e]
  exact this
theorem meterFL_fine {nm : ByteArray → Bool} {l : List Fm} (hl : ∀ t ∈ l, ∀ dp s, 1 ≤ dp → Fine t.size (dp - 1 + t.deep) (t.all (wellT nm) (wellF nm)) s (meterF nm t dp s)) (dp : Nat) (hdp : 1 ≤ dp) :
    ∀ s, Fine (Fm.sizeL l) (under dp (Fm.deepL l)) (Fm.allL (wellT nm) (wellF nm) l) s (meterFL nm l dp s) := by
  induction l with
  | nil => intro s; rw [Fm.sizeL, Fm.deepL, Fm.allL, meterFL]; exact Fine.refl s
  | cons t r ih =>
    intro s
    by_cases h0 : s.e = 0
    · rw [Fm.sizeL, Fm.allL, meterFL, Fm.deepL, if_pos h0]
      have := (hl t (List.mem_cons_self ..) dp s hdp).comp (ih (fun u hu => hl u (List.mem_cons_of_mem _ hu)) (meterF nm t dp s)) (meterFL_bad nm r dp _)
      have hp := t.deep_pos
      have e : under dp (max t.deep (Fm.deepL r)) = max (dp - 1 + t.deep) (under dp (Fm.deepL r)) := by
        unfold under
        rw [if_neg (by omega)]
        split <;> omega
      rw [e]
      exact this
    · exact Fine.vac h0
theorem meterF_fine (nm : ByteArray → Bool) : ∀ f dp s, 1 ≤ dp → Fine (Fm.size f) (dp - 1 + Fm.deep f) (Fm.all (wellT nm) (wellF nm) f) s (meterF nm f dp s) := by
  refine Fm.ind (fun o x m t a ih dp s hdp => ?_)
  rw [Fm.size, Fm.deep, Fm.all, meterF]
  have h1 := (node_fine dp (wellF nm (.mk o x m t a)) s).comp (meterTL_fine (nm := nm) (l := t) (fun u _ dp s h => meterT_fine nm u dp s h) (dp + 1) (by omega) (s.node dp (wellF nm (.mk o x m t a)))) (meterTL_bad nm t (dp + 1) _)
  have := h1.comp (meterFL_fine (nm := nm) ih (dp + 1) (by omega) _) (meterFL_bad nm a (dp + 1) _)
  have e1 : Tm.sizeL t + Fm.sizeL a + 1 = 1 + Tm.sizeL t + Fm.sizeL a := by omega
  have e : dp - 1 + (max (Tm.deepL t) (Fm.deepL a) + 1) = max (max dp (under (dp + 1) (Tm.deepL t))) (under (dp + 1) (Fm.deepL a)) := by
    unfold under
    split <;> split <;> omega
  rw [e, e1]
  exact this
def right (nm : ByteArray → Bool) (f : Fm) : Prop := f.size ≤ 500 ∧ f.deep ≤ 40 ∧ f.all (wellT nm) (wellF nm) = true
/-- no fault just if right; then the measures -/
theorem chk_iff (nm : ByteArray → Bool) (f : Fm) : chk nm f = 0 ↔ right nm f := by
  have h := meterF_fine nm f 1 ⟨0, 0, 0⟩ (by omega)
  constructor
  · intro h0
    obtain ⟨a, b, c⟩ := h.2 rfl h0 (by decide)
    exact ⟨by have : 0 + f.size ≤ 500 := a; omega, by omega, c⟩
  · rintro ⟨a, b, c⟩
    have := h.1 rfl (by show 0 + f.size ≤ 500; omega) (by omega) c
    unfold chk
    rw [this]
theorem meter_right {nm : ByteArray → Bool} {f : Fm} (hr : right nm f) : meterF nm f 1 ⟨0, 0, 0⟩ = ⟨f.size, f.deep, 0⟩ := by
  have h := meterF_fine nm f 1 ⟨0, 0, 0⟩ (by omega)
  have := h.1 rfl (by show 0 + f.size ≤ 500; have := hr.1; omega) (by have := hr.2.1; omega) hr.2.2
  rw [this]
  show St.mk (0 + f.size) (max 0 (1 - 1 + f.deep)) 0 = _
  congr 1
  · omega
  · omega
end Go.Proofs.YtabfhdmcljdjhaaDoor.Gl
/- The grammar over words, as relations: what is read from a place on: plain mathematics. -/
namespace Go.Proofs.YtabfhdmcljdjhaaDoor.Gl
set_option linter.unusedVariables false
set_option linter.unusedSimpArgs false

abbrev kNot : ByteArray := ⟨#[110, 111, 116]⟩
abbrev kEx : ByteArray := ⟨#[101, 120]⟩
abbrev kAll : ByteArray := ⟨#[97, 108, 108]⟩
abbrev kTrue : ByteArray := ⟨#[116, 114, 117, 101]⟩
abbrev kFalse : ByteArray := ⟨#[102, 97, 108, 115, 101]⟩
abbrev kMod : ByteArray := ⟨#[109, 111, 100]⟩
abbrev kAnd : ByteArray := ⟨#[97, 110, 100]⟩
abbrev kOr : ByteArray := ⟨#[111, 114]⟩
abbrev kTo : ByteArray := ⟨#[45, 62]⟩
abbrev kIff : ByteArray := ⟨#[60, 45, 62]⟩
abbrev kOpen : ByteArray := ⟨#[40]⟩
abbrev kShut : ByteArray := ⟨#[41]⟩
abbrev kSq : ByteArray := ⟨#[91]⟩
abbrev kQs : ByteArray := ⟨#[93]⟩
abbrev kComma : ByteArray := ⟨#[44]⟩
abbrev kDot : ByteArray := ⟨#[46]⟩
abbrev kPlus : ByteArray := ⟨#[43]⟩
abbrev kMinus : ByteArray := ⟨#[45]⟩
abbrev kStar : ByteArray := ⟨#[42]⟩
/- the atoms' signs: <=, <, >=, >, =, !=, ~ -/
abbrev rels : List ByteArray := [⟨#[60, 61]⟩, ⟨#[60]⟩, ⟨#[62, 61]⟩, ⟨#[62]⟩, ⟨#[61]⟩, ⟨#[33, 61]⟩, ⟨#[126]⟩]
/-- a sign, a name, a number stands at p -/
def IsS (ws : List Wd) (p : Nat) (x : ByteArray) : Prop := ∃ w, ws[p]? = some w ∧ w.kind = 2 ∧ w.text = x
def IsN (ws : List Wd) (p : Nat) (x : ByteArray) : Prop := ∃ w, ws[p]? = some w ∧ w.kind = 0 ∧ w.text = x
def IsD (ws : List Wd) (p : Nat) (n : Nat) : Prop := ∃ w, ws[p]? = some w ∧ w.kind = 1 ∧ w.num = n
theorem lt_of_some {ws : List Wd} {p : Nat} {w : Wd} (h : ws[p]? = some w) : p < ws.length := (List.getElem?_eq_some_iff.1 h).1
theorem IsS.lt {ws : List Wd} {p : Nat} {x : ByteArray} (h : IsS ws p x) : p < ws.length := lt_of_some h.choose_spec.1
theorem IsN.lt {ws : List Wd} {p : Nat} {x : ByteArray} (h : IsN ws p x) : p < ws.length := lt_of_some h.choose_spec.1
theorem IsD.lt {ws : List Wd} {p n : Nat} (h : IsD ws p n) : p < ws.length := lt_of_some h.choose_spec.1
theorem IsS.one {ws : List Wd} {p : Nat} {x y : ByteArray} (h : IsS ws p x) (k : IsS ws p y) : x = y := by
  obtain ⟨w, a, _, b⟩ := h
  obtain ⟨w', a', _, b'⟩ := k
  rw [a] at a'
  cases a'
  exact b.symm.trans b'
inductive Out (α : Type) where
  | ok (a : α) (q : Nat)
  | bad (why q : Nat)
abbrev tNeg (x : Tm) : Tm := .mk 2 0 emp [x]
abbrev tMul (x y : Tm) : Tm := .mk 5 0 emp [x, y]
abbrev tAdd (x y : Tm) : Tm := .mk 3 0 emp [x, y]
abbrev tSub (x y : Tm) : Tm := .mk 4 0 emp [x, y]
/- what a term's part is -/
inductive QT where
  | fac
  | prod
  | prodL (x : Tm)
  | sum
  | sumL (x : Tm)
inductive PT (ws : List Wd) : QT → Nat → Out Tm → Prop
  | sqBad {p e q} : IsS ws p kSq → PT ws .sum (p + 1) (.bad e q) → PT ws .fac p (.bad e q)
  | sqNo {p x q} : IsS ws p kSq → PT ws .sum (p + 1) (.ok x q) → ¬ IsS ws q kQs → PT ws .fac p (.bad 71 q)
  | sq {p x q} : IsS ws p kSq → PT ws .sum (p + 1) (.ok x q) → IsS ws q kQs → PT ws .fac p (.ok x (q + 1))
  | negBad {p e q} : IsS ws p kMinus → PT ws .fac (p + 1) (.bad e q) → PT ws .fac p (.bad e q)
  | neg {p x q} : IsS ws p kMinus → PT ws .fac (p + 1) (.ok x q) → PT ws .fac p (.ok (tNeg x) q)
  | name {p x} : IsN ws p x → PT ws .fac p (.ok (.mk 1 0 x []) (p + 1))
  | num {p n} : IsD ws p n → PT ws .fac p (.ok (.mk 0 n emp []) (p + 1))
  | none {p} : ¬ IsS ws p kSq → ¬ IsS ws p kMinus → (∀ x, ¬ IsN ws p x) → (∀ n, ¬ IsD ws p n) → PT ws .fac p (.bad 71 p)
  | prodBad {p e q} : PT ws .fac p (.bad e q) → PT ws .prod p (.bad e q)
  | prod {p x q r} : PT ws .fac p (.ok x q) → PT ws (.prodL x) q r → PT ws .prod p r
  | prodStop {p x} : ¬ IsS ws p kStar → PT ws (.prodL x) p (.ok x p)
  | prodLBad {p x e q} : IsS ws p kStar → PT ws .fac (p + 1) (.bad e q) → PT ws (.prodL x) p (.bad e q)
  | prodL {p x y q r} : IsS ws p kStar → PT ws .fac (p + 1) (.ok y q) → PT ws (.prodL (tMul x y)) q r → PT ws (.prodL x) p r
  | sumBad {p e q} : PT ws .prod p (.bad e q) → PT ws .sum p (.bad e q)
  | sum {p x q r} : PT ws .prod p (.ok x q) → PT ws (.sumL x) q r → PT ws .sum p r
  | sumStop {p x} : ¬ IsS ws p kPlus → ¬ IsS ws p kMinus → PT ws (.sumL x) p (.ok x p)
  | addBad {p x e q} : IsS ws p kPlus → PT ws .prod (p + 1) (.bad e q) → PT ws (.sumL x) p (.bad e q)
  | add {p x y q r} : IsS ws p kPlus → PT ws .prod (p + 1) (.ok y q) → PT ws (.sumL (tAdd x y)) q r → PT ws (.sumL x) p r
  | subBad {p x e q} : IsS ws p kMinus → PT ws .prod (p + 1) (.bad e q) → PT ws (.sumL x) p (.bad e q)
  | sub {p x y q r} : IsS ws p kMinus → PT ws .prod (p + 1) (.ok y q) → PT ws (.sumL (tSub x y)) q r → PT ws (.sumL x) p r
/- how far it goes -/
def QT.more : QT → Nat
  | .prodL _ => 0
  | .sumL _ => 0
  | _ => 1
def Out.far {α : Type} (n p : Nat) (len : Nat) : Out α → Prop
  | .ok _ q => p + n ≤ q ∧ q ≤ max p len
  | .bad _ q => p ≤ q ∧ q ≤ max p len
theorem PT.far {ws : List Wd} {k : QT} {p : Nat} {r : Out Tm} (h : PT ws k p r) : r.far k.more p ws.length := by
  induction h with
  | sqBad a _ i => have := a.lt; simp only [Out.far, QT.more] at *; omega
  | sqNo a _ _ i => have := a.lt; simp only [Out.far, QT.more] at *; omega
  | sq a _ b i => have := a.lt; have := b.lt; simp only [Out.far, QT.more] at *; omega
  | negBad a _ i => have := a.lt; simp only [Out.far, QT.more] at *; omega
  | neg a _ i => have := a.lt; simp only [Out.far, QT.more] at *; omega
  | name a => have := a.lt; simp only [Out.far, QT.more] at *; omega
  | num a => have := a.lt; simp only [Out.far, QT.more] at *; omega
  | none _ _ _ _ => simp only [Out.far, QT.more] at *; omega
  | prodBad _ i => simp only [Out.far, QT.more] at *; omega
  | @prod p x q r _ _ i j => cases r <;> simp only [Out.far, QT.more] at * <;> omega
  | prodStop _ => simp only [Out.far, QT.more] at *; omega
  | prodLBad a _ i => have := a.lt; simp only [Out.far, QT.more] at *; omega
  | @prodL p x y q r a _ _ i j => have := a.lt; cases r <;> simp only [Out.far, QT.more] at * <;> omega
  | sumBad _ i => simp only [Out.far, QT.more] at *; omega
  | @sum p x q r _ _ i j => cases r <;> simp only [Out.far, QT.more] at * <;> omega
  | sumStop _ _ => simp only [Out.far, QT.more] at *; omega
  | addBad a _ i => have := a.lt; simp only [Out.far, QT.more] at *; omega
  | @add p x y q r a _ _ i j => have := a.lt; cases r <;> simp only [Out.far, QT.more] at * <;> omega
  | subBad a _ i => have := a.lt; simp only [Out.far, QT.more] at *; omega
  | @sub p x y q r a _ _ i j => have := a.lt; cases r <;> simp only [Out.far, QT.more] at * <;> omega
/- there is an answer -/
theorem PT.ex (ws : List Wd) : ∀ k p, ws.length - p ≤ k → (∃ r, PT ws .fac p r) ∧ (∃ r, PT ws .prod p r) ∧ (∃ r, PT ws .sum p r) ∧ (∀ x, ∃ r, PT ws (.prodL x) p r) ∧ ∀ x, ∃ r, PT ws (.sumL x) p r := by
  intro k
  induction k using Nat.strongRecOn with
  | _ k ih =>
    intro p hp
    have hfac : ∃ r, PT ws .fac p r := by
      by_cases h1 : IsS ws p kSq
      · obtain ⟨r, hr⟩ := (ih (k - 1) (by have := h1.lt; omega) (p + 1) (by have := h1.lt; omega)).2.2.1
        cases r with
        | bad e q => exact ⟨_, .sqBad h1 hr⟩
        | ok x q =>
          by_cases h2 : IsS ws q kQs
          · exact ⟨_, .sq h1 hr h2⟩
          · exact ⟨_, .sqNo h1 hr h2⟩
      · by_cases h2 : IsS ws p kMinus
        · obtain ⟨r, hr⟩ := (ih (k - 1) (by have := h2.lt; omega) (p + 1) (by have := h2.lt; omega)).1
          cases r with
          | bad e q => exact ⟨_, .negBad h2 hr⟩
          | ok x q => exact ⟨_, .neg h2 hr⟩
        · by_cases h3 : ∃ x, IsN ws p x
          · obtain ⟨x, h3⟩ := h3; exact ⟨_, .name h3⟩
          · by_cases h4 : ∃ n, IsD ws p n
            · obtain ⟨n, h4⟩ := h4; exact ⟨_, .num h4⟩
            · exact ⟨_, .none h1 h2 (fun x hx => h3 ⟨x, hx⟩) (fun n hn => h4 ⟨n, hn⟩)⟩
    have hpl : ∀ x, ∃ r, PT ws (.prodL x) p r := by
      intro x
      by_cases h1 : IsS ws p kStar
      · have hlt := h1.lt
        obtain ⟨r, hr⟩ := (ih (k - 1) (by omega) (p + 1) (by omega)).1
        cases r with
        | bad e q => exact ⟨_, .prodLBad h1 hr⟩
        | ok y q =>
          have := hr.far
          simp only [Out.far, QT.more] at this
          obtain ⟨r, hr'⟩ := (ih (k - 1) (by omega) q (by omega)).2.2.2.1 (tMul x y)
          exact ⟨_, .prodL h1 hr hr'⟩
      · exact ⟨_, .prodStop h1⟩
    have hprod : ∃ r, PT ws .prod p r := by
      obtain ⟨r, hr⟩ := hfac
      cases r with
      | bad e q => exact ⟨_, .prodBad hr⟩
      | ok x q =>
        have := hr.far
        simp only [Out.far, QT.more] at this
        obtain ⟨r, hr'⟩ := (ih (k - 1) (by omega) q (by omega)).2.2.2.1 x
        exact ⟨_, .prod hr hr'⟩
    have hsl : ∀ x, ∃ r, PT ws (.sumL x) p r := by
      intro x
      by_cases h1 : IsS ws p kPlus
      · have hlt := h1.lt
        obtain ⟨r, hr⟩ := (ih (k - 1) (by omega) (p + 1) (by omega)).2.1
        cases r with
        | bad e q => exact ⟨_, .addBad h1 hr⟩
        | ok y q =>
          have := hr.far
          simp only [Out.far, QT.more] at this
          obtain ⟨r, hr'⟩ := (ih (k - 1) (by omega) q (by omega)).2.2.2.2 (tAdd x y)
          exact ⟨_, .add h1 hr hr'⟩
      · by_cases h2 : IsS ws p kMinus
        · have hlt := h2.lt
          obtain ⟨r, hr⟩ := (ih (k - 1) (by omega) (p + 1) (by omega)).2.1
          cases r with
          | bad e q => exact ⟨_, .subBad h2 hr⟩
          | ok y q =>
            have := hr.far
            simp only [Out.far, QT.more] at this
            obtain ⟨r, hr'⟩ := (ih (k - 1) (by omega) q (by omega)).2.2.2.2 (tSub x y)
            exact ⟨_, .sub h2 hr hr'⟩
        · exact ⟨_, .sumStop h1 h2⟩
    have hsum : ∃ r, PT ws .sum p r := by
      obtain ⟨r, hr⟩ := hprod
      cases r with
      | bad e q => exact ⟨_, .sumBad hr⟩
      | ok x q =>
        have := hr.far
        simp only [Out.far, QT.more] at this
        obtain ⟨r, hr'⟩ := (ih (k - 1) (by omega) q (by omega)).2.2.2.2 x
        exact ⟨_, .sum hr hr'⟩
    exact ⟨hfac, hprod, hsum, hpl, hsl⟩
end Go.Proofs.YtabfhdmcljdjhaaDoor.Gl
/- The grammar of formulas over words: plain mathematics. -/
namespace Go.Proofs.YtabfhdmcljdjhaaDoor.Gl
set_option linter.unusedVariables false
set_option linter.unusedSimpArgs false

abbrev fPair (op : Int) (a b : Fm) : Fm := .mk op emp 0 [] [a, b]
abbrev fNot (a : Fm) : Fm := .mk 2 emp 0 [] [a]
abbrev fQ (op : Int) (x : ByteArray) (a : Fm) : Fm := .mk op x 0 [] [a]
abbrev fTrue : Fm := .mk 0 emp 0 [] []
abbrev fFalse : Fm := .mk 1 emp 0 [] []
/- the sign between a level's parts, and its kind -/
def sgOf : Nat → ByteArray
  | 0 => kIff
  | 1 => kTo
  | 2 => kOr
  | _ => kAnd
def opOf : Nat → Int
  | 0 => 6
  | 1 => 5
  | 2 => 4
  | _ => 3
def foldR (op : Int) : Fm → List Fm → Fm
  | a, [] => a
  | a, b :: l => fPair op a (foldR op b l)
def foldL (op : Int) : Fm → List Fm → Fm
  | a, [] => a
  | a, b :: l => foldL op (fPair op a b) l
def fold (n : Nat) (a : Fm) (l : List Fm) : Fm := if n = 1 then foldR (opOf n) a l else foldL (opOf n) a l
def quants (op : Int) : List ByteArray → Fm → Fm
  | [], f => f
  | x :: l, f => fQ op x (quants op l f)
/- names with commas between -/
inductive PN (ws : List Wd) : Nat → Out (List ByteArray) → Prop
  | none {p} : (∀ x, ¬ IsN ws p x) → PN ws p (.bad 71 p)
  | last {p x} : IsN ws p x → ¬ IsS ws (p + 1) kComma → PN ws p (.ok [x] (p + 1))
  | bad {p x e q} : IsN ws p x → IsS ws (p + 1) kComma → PN ws (p + 2) (.bad e q) → PN ws p (.bad e q)
  | more {p x l q} : IsN ws p x → IsS ws (p + 1) kComma → PN ws (p + 2) (.ok l q) → PN ws p (.ok (x :: l) q)
/- an atom -/
inductive PA (ws : List Wd) : Nat → Out Fm → Prop
  | bad1 {p e q} : PT ws .sum p (.bad e q) → PA ws p (.bad e q)
  | none {p a q} : PT ws .sum p (.ok a q) → (∀ x ∈ rels, ¬ IsS ws q x) → PA ws p (.bad 71 q)
  | bad2 {p a q x e q'} : PT ws .sum p (.ok a q) → x ∈ rels → IsS ws q x → PT ws .sum (q + 1) (.bad e q') → PA ws p (.bad e q')
  | rel {p a q i b q'} : PT ws .sum p (.ok a q) → i < 6 → IsS ws q (rels.getD i emp) → PT ws .sum (q + 1) (.ok b q') → PA ws p (.ok (.mk (9 + (i : Nat)) emp 0 [a, b] []) q')
  | noMod {p a q b q'} : PT ws .sum p (.ok a q) → IsS ws q (rels.getD 6 emp) → PT ws .sum (q + 1) (.ok b q') → ¬ IsS ws q' kMod → PA ws p (.bad 71 q')
  | noNum {p a q b q'} : PT ws .sum p (.ok a q) → IsS ws q (rels.getD 6 emp) → PT ws .sum (q + 1) (.ok b q') → IsS ws q' kMod → (∀ n, ¬ IsD ws (q' + 1) n) → PA ws p (.bad 71 (q' + 1))
  | zero {p a q b q'} : PT ws .sum p (.ok a q) → IsS ws q (rels.getD 6 emp) → PT ws .sum (q + 1) (.ok b q') → IsS ws q' kMod → IsD ws (q' + 1) 0 → PA ws p (.bad 92 (q' + 1))
  | cong {p a q b q' n} : PT ws .sum p (.ok a q) → IsS ws q (rels.getD 6 emp) → PT ws .sum (q + 1) (.ok b q') → IsS ws q' kMod → IsD ws (q' + 1) n → n ≠ 0 → PA ws p (.ok (.mk 15 emp n [a, b] []) (q' + 2))
inductive QF where
  | lev (n : Nat)
  | tail (n : Nat)
  | un
inductive Rs where
  | f (f : Fm)
  | l (l : List Fm)
/- no sign of a unary stands at p -/
def noUn (ws : List Wd) (p : Nat) : Prop := ∀ x ∈ [kNot, kEx, kAll, kOpen, kTrue, kFalse], ¬ IsS ws p x
inductive PF (ws : List Wd) : QF → Nat → Out Rs → Prop
  | un {p r} : PF ws .un p r → PF ws (.lev 4) p r
  | levBad {n p e q} : n < 4 → PF ws (.lev (n + 1)) p (.bad e q) → PF ws (.lev n) p (.bad e q)
  | levTail {n p a q e q'} : n < 4 → PF ws (.lev (n + 1)) p (.ok (.f a) q) → PF ws (.tail n) q (.bad e q') → PF ws (.lev n) p (.bad e q')
  | lev {n p a q l q'} : n < 4 → PF ws (.lev (n + 1)) p (.ok (.f a) q) → PF ws (.tail n) q (.ok (.l l) q') → PF ws (.lev n) p (.ok (.f (fold n a l)) q')
  | stop {n p} : n < 4 → ¬ IsS ws p (sgOf n) → PF ws (.tail n) p (.ok (.l []) p)
  | tailBad {n p e q} : n < 4 → IsS ws p (sgOf n) → PF ws (.lev (n + 1)) (p + 1) (.bad e q) → PF ws (.tail n) p (.bad e q)
  | tailTail {n p a q e q'} : n < 4 → IsS ws p (sgOf n) → PF ws (.lev (n + 1)) (p + 1) (.ok (.f a) q) → PF ws (.tail n) q (.bad e q') → PF ws (.tail n) p (.bad e q')
  | tail {n p a q l q'} : n < 4 → IsS ws p (sgOf n) → PF ws (.lev (n + 1)) (p + 1) (.ok (.f a) q) → PF ws (.tail n) q (.ok (.l l) q') → PF ws (.tail n) p (.ok (.l (a :: l)) q')
  | notBad {p e q} : IsS ws p kNot → PF ws .un (p + 1) (.bad e q) → PF ws .un p (.bad e q)
  | not {p a q} : IsS ws p kNot → PF ws .un (p + 1) (.ok (.f a) q) → PF ws .un p (.ok (.f (fNot a)) q)
  | quNames {p x o e q} : (x, o) ∈ [(kEx, (7 : Int)), (kAll, 8)] → IsS ws p x → PN ws (p + 1) (.bad e q) → PF ws .un p (.bad e q)
  | quDot {p x o l q} : (x, o) ∈ [(kEx, (7 : Int)), (kAll, 8)] → IsS ws p x → PN ws (p + 1) (.ok l q) → ¬ IsS ws q kDot → PF ws .un p (.bad 71 q)
  | quBad {p x o l q e q'} : (x, o) ∈ [(kEx, (7 : Int)), (kAll, 8)] → IsS ws p x → PN ws (p + 1) (.ok l q) → IsS ws q kDot → PF ws .un (q + 1) (.bad e q') → PF ws .un p (.bad e q')
  | qu {p x o l q a q'} : (x, o) ∈ [(kEx, (7 : Int)), (kAll, 8)] → IsS ws p x → PN ws (p + 1) (.ok l q) → IsS ws q kDot → PF ws .un (q + 1) (.ok (.f a) q') → PF ws .un p (.ok (.f (quants o l a)) q')
  | brBad {p e q} : IsS ws p kOpen → PF ws (.lev 0) (p + 1) (.bad e q) → PF ws .un p (.bad e q)
  | brNo {p a q} : IsS ws p kOpen → PF ws (.lev 0) (p + 1) (.ok (.f a) q) → ¬ IsS ws q kShut → PF ws .un p (.bad 71 q)
  | br {p a q} : IsS ws p kOpen → PF ws (.lev 0) (p + 1) (.ok (.f a) q) → IsS ws q kShut → PF ws .un p (.ok (.f a) (q + 1))
  | tru {p} : IsS ws p kTrue → PF ws .un p (.ok (.f fTrue) (p + 1))
  | fls {p} : IsS ws p kFalse → PF ws .un p (.ok (.f fFalse) (p + 1))
  | atomBad {p e q} : noUn ws p → PA ws p (.bad e q) → PF ws .un p (.bad e q)
  | atom {p a q} : noUn ws p → PA ws p (.ok a q) → PF ws .un p (.ok (.f a) q)
theorem PN.far {ws : List Wd} {p : Nat} {r : Out (List ByteArray)} (h : PN ws p r) : r.far 1 p ws.length := by
  induction h with
  | none _ => simp only [Out.far]; omega
  | last a _ => have := a.lt; simp only [Out.far]; omega
  | bad a b _ i => have := b.lt; simp only [Out.far] at *; omega
  | more a b _ i => have := b.lt; simp only [Out.far] at *; omega
theorem PA.far {ws : List Wd} {p : Nat} {r : Out Fm} (h : PA ws p r) : r.far 1 p ws.length := by
  cases h with
  | bad1 a => have := a.far; simp only [Out.far, QT.more] at *; omega
  | none a _ => have := a.far; simp only [Out.far, QT.more] at *; omega
  | bad2 a _ s b => have := a.far; have := b.far; have := s.lt; simp only [Out.far, QT.more] at *; omega
  | rel a _ s b => have := a.far; have := b.far; have := s.lt; simp only [Out.far, QT.more] at *; omega
  | noMod a s b _ => have := a.far; have := b.far; have := s.lt; simp only [Out.far, QT.more] at *; omega
  | noNum a s b t _ => have := a.far; have := b.far; have := s.lt; have := t.lt; simp only [Out.far, QT.more] at *; omega
  | zero a s b t _ => have := a.far; have := b.far; have := s.lt; have := t.lt; simp only [Out.far, QT.more] at *; omega
  | cong a s b t d _ => have := a.far; have := b.far; have := s.lt; have := t.lt; have := d.lt; simp only [Out.far, QT.more] at *; omega
def QF.more : QF → Nat
  | .tail _ => 0
  | _ => 1
theorem PF.far {ws : List Wd} {k : QF} {p : Nat} {r : Out Rs} (h : PF ws k p r) : r.far k.more p ws.length := by
  induction h with
  | @un p r _ i => cases r <;> simp only [Out.far, QF.more] at * <;> omega
  | levBad _ _ i => simp only [Out.far, QF.more] at *; omega
  | levTail _ _ _ i j => simp only [Out.far, QF.more] at *; omega
  | lev _ _ _ i j => simp only [Out.far, QF.more] at *; omega
  | stop _ _ => simp only [Out.far, QF.more] at *; omega
  | tailBad _ a _ i => have := a.lt; simp only [Out.far, QF.more] at *; omega
  | tailTail _ a _ _ i j => have := a.lt; simp only [Out.far, QF.more] at *; omega
  | tail _ a _ _ i j => have := a.lt; simp only [Out.far, QF.more] at *; omega
  | notBad a _ i => have := a.lt; simp only [Out.far, QF.more] at *; omega
  | not a _ i => have := a.lt; simp only [Out.far, QF.more] at *; omega
  | quNames _ a b => have := a.lt; have := b.far; simp only [Out.far, QF.more] at *; omega
  | quDot _ a b _ => have := a.lt; have := b.far; simp only [Out.far, QF.more] at *; omega
  | quBad _ a b c _ i => have := a.lt; have := b.far; have := c.lt; simp only [Out.far, QF.more] at *; omega
  | qu _ a b c _ i => have := a.lt; have := b.far; have := c.lt; simp only [Out.far, QF.more] at *; omega
  | brBad a _ i => have := a.lt; simp only [Out.far, QF.more] at *; omega
  | brNo a _ _ i => have := a.lt; simp only [Out.far, QF.more] at *; omega
  | br a _ b i => have := a.lt; have := b.lt; simp only [Out.far, QF.more] at *; omega
  | tru a => have := a.lt; simp only [Out.far, QF.more] at *; omega
  | fls a => have := a.lt; simp only [Out.far, QF.more] at *; omega
  | atomBad _ a => have := a.far; simp only [Out.far, QF.more] at *; omega
  | atom _ a => have := a.far; simp only [Out.far, QF.more] at *; omega
/- the shape of an answer -/
def Out.fits : QF → Out Rs → Prop
  | .tail _, .ok (.f _) _ => False
  | .lev _, .ok (.l _) _ => False
  | .un, .ok (.l _) _ => False
  | _, _ => True
theorem PF.fits {ws : List Wd} {k : QF} {p : Nat} {r : Out Rs} (h : PF ws k p r) : r.fits k := by
  induction h with
  | @un p r _ i => cases r with
    | bad e q => trivial
    | ok a q => cases a <;> trivial
  | _ => trivial
theorem PN.ex (ws : List Wd) : ∀ k p, ws.length - p ≤ k → ∃ r, PN ws p r := by
  intro k
  induction k using Nat.strongRecOn with
  | _ k ih =>
    intro p hp
    by_cases h : ∃ x, IsN ws p x
    · obtain ⟨x, h⟩ := h
      by_cases h2 : IsS ws (p + 1) kComma
      · have := h2.lt
        obtain ⟨r, hr⟩ := ih (k - 1) (by omega) (p + 2) (by omega)
        cases r with
        | bad e q => exact ⟨_, .bad h h2 hr⟩
        | ok l q => exact ⟨_, .more h h2 hr⟩
      · exact ⟨_, .last h h2⟩
    · exact ⟨_, .none fun x hx => h ⟨x, hx⟩⟩
theorem PA.ex (ws : List Wd) (p : Nat) : ∃ r, PA ws p r := by
  have S : ∀ p, ∃ r, PT ws .sum p r := fun p => (PT.ex ws _ p (Nat.le_refl _)).2.2.1
  obtain ⟨r, hr⟩ := S p
  cases r with
  | bad e q => exact ⟨_, .bad1 hr⟩
  | ok a q =>
    by_cases h : ∃ x ∈ rels, IsS ws q x
    · obtain ⟨x, hx, hs⟩ := h
      obtain ⟨r, hr'⟩ := S (q + 1)
      cases r with
      | bad e q' => exact ⟨_, .bad2 hr hx hs hr'⟩
      | ok b q' =>
        by_cases h6 : IsS ws q (rels.getD 6 emp)
        · by_cases hm : IsS ws q' kMod
          · by_cases hn : ∃ n, IsD ws (q' + 1) n
            · obtain ⟨n, hn⟩ := hn
              by_cases h0 : n = 0
              · subst h0; exact ⟨_, .zero hr h6 hr' hm hn⟩
              · exact ⟨_, .cong hr h6 hr' hm hn h0⟩
            · exact ⟨_, .noNum hr h6 hr' hm fun n h => hn ⟨n, h⟩⟩
          · exact ⟨_, .noMod hr h6 hr' hm⟩
        · obtain ⟨i, hi, he⟩ : ∃ i, i < 7 ∧ rels.getD i emp = x := by
            obtain ⟨i, hi, he⟩ := List.mem_iff_getElem.1 hx
            exact ⟨i, hi, by rw [List.getD_eq_getElem?_getD, List.getElem?_eq_getElem hi]; exact he⟩
          subst he
          have : i ≠ 6 := fun h => by subst h; exact h6 hs
          exact ⟨_, .rel hr (by omega : i < 6) hs hr'⟩
    · exact ⟨_, .none hr fun x hx hs => h ⟨x, hx, hs⟩⟩
theorem PF.ex (ws : List Wd) : ∀ k p, ws.length - p ≤ k → (∃ r, PF ws .un p r) ∧ ∀ n, n ≤ 4 → (∃ r, PF ws (.lev n) p r) ∧ (n < 4 → ∃ r, PF ws (.tail n) p r) := by
  intro k
  induction k using Nat.strongRecOn with
  | _ k ih =>
    intro p hp
    have hun : ∃ r, PF ws .un p r := by
      by_cases h : ∃ x ∈ [kNot, kEx, kAll, kOpen, kTrue, kFalse], IsS ws p x
      · obtain ⟨x, hx, hs⟩ := h
        have hlt := hs.lt
        have Q : ∀ o, (x, o) ∈ [(kEx, (7 : Int)), (kAll, 8)] → ∃ r, PF ws .un p r := by
          intro o ho
          obtain ⟨r, hr⟩ := PN.ex ws _ (p + 1) (Nat.le_refl _)
          cases r with
          | bad e q => exact ⟨_, .quNames ho hs hr⟩
          | ok l q =>
            by_cases hd : IsS ws q kDot
            · have := hr.far
              have := hd.lt
              simp only [Out.far] at *
              obtain ⟨r, hr'⟩ := (ih (k - 1) (by omega) (q + 1) (by omega)).1
              cases r with
              | bad e q' => exact ⟨_, .quBad ho hs hr hd hr'⟩
              | ok a q' =>
                cases a with
                | f a => exact ⟨_, .qu ho hs hr hd hr'⟩
                | l a => exact absurd hr'.fits (by simp [Out.fits])
            · exact ⟨_, .quDot ho hs hr hd⟩
        simp only [List.mem_cons, List.not_mem_nil, or_false] at hx
        rcases hx with e | e | e | e | e | e
        · subst e
          obtain ⟨r, hr⟩ := (ih (k - 1) (by omega) (p + 1) (by omega)).1
          cases r with
          | bad e q => exact ⟨_, .notBad hs hr⟩
          | ok a q =>
            cases a with
            | f a => exact ⟨_, .not hs hr⟩
            | l a => exact absurd hr.fits (by simp [Out.fits])
        · subst e; exact Q 7 (by simp)
        · subst e; exact Q 8 (by simp)
        · subst e
          obtain ⟨r, hr⟩ := ((ih (k - 1) (by omega) (p + 1) (by omega)).2 0 (by omega)).1
          cases r with
          | bad e q => exact ⟨_, .brBad hs hr⟩
          | ok a q =>
            cases a with
            | f a =>
              by_cases h2 : IsS ws q kShut
              · exact ⟨_, .br hs hr h2⟩
              · exact ⟨_, .brNo hs hr h2⟩
            | l a => exact absurd hr.fits (by simp [Out.fits])
        · subst e; exact ⟨_, .tru hs⟩
        · subst e; exact ⟨_, .fls hs⟩
      · have hno : noUn ws p := fun x hx hs => h ⟨x, hx, hs⟩
        obtain ⟨r, hr⟩ := PA.ex ws p
        cases r with
        | bad e q => exact ⟨_, .atomBad hno hr⟩
        | ok a q => exact ⟨_, .atom hno hr⟩
    refine ⟨hun, ?_⟩
    have htail : ∀ n, n < 4 → ∃ r, PF ws (.tail n) p r := by
      intro n hn
      by_cases h : IsS ws p (sgOf n)
      · have := h.lt
        obtain ⟨r, hr⟩ := ((ih (k - 1) (by omega) (p + 1) (by omega)).2 (n + 1) (by omega)).1
        cases r with
        | bad e q => exact ⟨_, .tailBad hn h hr⟩
        | ok a q =>
          cases a with
          | l a => exact absurd hr.fits (by simp [Out.fits])
          | f a =>
            have := hr.far
            simp only [Out.far, QF.more] at this
            obtain ⟨r, hr'⟩ := ((ih (k - 1) (by omega) q (by omega)).2 n (by omega)).2 hn
            cases r with
            | bad e q => exact ⟨_, .tailTail hn h hr hr'⟩
            | ok l q =>
              cases l with
              | l l => exact ⟨_, .tail hn h hr hr'⟩
              | f l => exact absurd hr'.fits (by simp [Out.fits])
      · exact ⟨_, .stop hn h⟩
    have hlev : ∀ m n, n + m = 4 → ∃ r, PF ws (.lev n) p r := by
      intro m
      induction m with
      | zero =>
        intro n hn
        obtain rfl : n = 4 := by omega
        obtain ⟨r, hr⟩ := hun
        exact ⟨_, .un hr⟩
      | succ m ihm =>
        intro n hn
        obtain ⟨r, hr⟩ := ihm (n + 1) (by omega)
        cases r with
        | bad e q => exact ⟨_, .levBad (by omega) hr⟩
        | ok a q =>
          cases a with
          | l a => exact absurd hr.fits (by simp [Out.fits])
          | f a =>
            have hfar := hr.far
            simp only [Out.far, QF.more] at hfar
            obtain ⟨r, hr'⟩ : ∃ r, PF ws (.tail n) q r := by
              by_cases hlt : p < ws.length
              · exact ((ih (k - 1) (by omega) q (by omega)).2 n (by omega)).2 (by omega)
              · exact ⟨_, .stop (by omega) fun h => by have := h.lt; omega⟩
            cases r with
            | bad e q => exact ⟨_, .levTail (by omega) hr hr'⟩
            | ok l q =>
              cases l with
              | l l => exact ⟨_, .lev (by omega) hr hr'⟩
              | f l => exact absurd hr'.fits (by simp [Out.fits])
    exact fun n hn => ⟨hlev (4 - n) n (by omega), fun h => htail n h⟩
end Go.Proofs.YtabfhdmcljdjhaaDoor.Gl
/- The grammar from where a reader stands: plain mathematics. -/
namespace Go.Proofs.YtabfhdmcljdjhaaDoor.Gl
set_option linter.unusedVariables false
set_option linter.unusedSimpArgs false

/-- where a reader stands: at a word, or behind a fault -/
inductive Pos where
  | at (p : Nat)
  | bad (y q : Nat)
def Out.pos {α : Type} : Out α → Pos
  | .ok _ q => .at q
  | .bad y q => .bad y q
/-- what is answered: just this, where nothing is wrong -/
def Out.is {α : Type} (r : Out α) (x : α) : Prop := ∀ a q, r = .ok a q → x = a
def Pos.stands (ws : List Wd) (x : ByteArray) : Pos → Prop
  | .at p => IsS ws p x
  | .bad _ _ => False
def Pos.from (N : Nat) : Pos → Prop
  | .at p => N ≤ p
  | .bad _ _ => True
/-- goes wrong here, if it has not gone wrong -/
def Pos.ref (y : Nat) : Pos → Pos
  | .at p => .bad y p
  | .bad y q => .bad y q
/-- behind a sign that must stand here -/
def Pos.need (ws : List Wd) (x : ByteArray) (P P' : Pos) : Prop := (∃ p, P = .at p ∧ IsS ws p x ∧ P' = .at (p + 1)) ∨ (¬ P.stands ws x ∧ P' = P.ref 71)
theorem Pos.from.le {N M : Nat} {P : Pos} (h : P.from N) (hm : M ≤ N) : P.from M := by
  cases P with
  | «at» p => exact Nat.le_trans hm h
  | bad y q => trivial
theorem Pos.ref_from {N y : Nat} {P : Pos} : (P.ref y).from N := by cases P <;> trivial
theorem Pos.need.from {ws : List Wd} {x : ByteArray} {P P' : Pos} {N : Nat} (h : P.need ws x P') (hP : P.from N) : P'.from N := by
  rcases h with ⟨p, rfl, _, rfl⟩ | ⟨_, rfl⟩
  · exact Nat.le_succ_of_le hP
  · exact Pos.ref_from
theorem is_ok {α : Type} {x a : α} {q : Nat} (h : x = a) : (Out.ok a q).is x := fun _ _ e => by cases e; exact h
theorem is_bad {α : Type} {x : α} {e q : Nat} : (Out.bad e q : Out α).is x := fun _ _ e => by cases e
theorem of_is {α : Type} {x a : α} {q : Nat} (h : (Out.ok a q).is x) : x = a := h a q rfl
theorem IsN.one {ws : List Wd} {p : Nat} {x y : ByteArray} (h : IsN ws p x) (k : IsN ws p y) : x = y := by
  obtain ⟨w, a, _, b⟩ := h
  obtain ⟨w', a', _, b'⟩ := k
  rw [a] at a'
  cases a'
  exact b.symm.trans b'
theorem IsD.one {ws : List Wd} {p m n : Nat} (h : IsD ws p m) (k : IsD ws p n) : m = n := by
  obtain ⟨w, a, _, b⟩ := h
  obtain ⟨w', a', _, b'⟩ := k
  rw [a] at a'
  cases a'
  exact b.symm.trans b'
theorem IsS.nn {ws : List Wd} {p : Nat} {x y : ByteArray} (h : IsS ws p x) : ¬ IsN ws p y := fun k => by
  obtain ⟨w, a, b, _⟩ := h
  obtain ⟨w', a', b', _⟩ := k
  rw [a] at a'; cases a'; omega
theorem IsS.nd {ws : List Wd} {p n : Nat} {x : ByteArray} (h : IsS ws p x) : ¬ IsD ws p n := fun k => by
  obtain ⟨w, a, b, _⟩ := h
  obtain ⟨w', a', b', _⟩ := k
  rw [a] at a'; cases a'; omega
theorem IsN.nd {ws : List Wd} {p n : Nat} {x : ByteArray} (h : IsN ws p x) : ¬ IsD ws p n := fun k => by
  obtain ⟨w, a, b, _⟩ := h
  obtain ⟨w', a', b', _⟩ := k
  rw [a] at a'; cases a'; omega
theorem IsS.ne {ws : List Wd} {p : Nat} {x y : ByteArray} (h : IsS ws p x) (hxy : x ≠ y) : ¬ IsS ws p y := fun k => hxy (h.one k)
/- terms -/
inductive GT (ws : List Wd) (k : QT) : Pos → Out Tm → Prop
  | «at» {p r} : PT ws k p r → GT ws k (.at p) r
  | bad {y q} : GT ws k (.bad y q) (.bad y q)
theorem GT.from {ws : List Wd} {k : QT} {P : Pos} {r : Out Tm} {N : Nat} (h : GT ws k P r) (hP : P.from N) : r.pos.from N := by
  cases h with
  | bad => trivial
  | «at» h =>
    have := h.far
    cases r with
    | bad e q => trivial
    | ok a q => simp only [Out.far] at this; exact Nat.le_trans hP (by omega)
theorem gt_prod {ws : List Wd} {P : Pos} {r : Out Tm} (h : GT ws .prod P r) : ∃ r0, GT ws .fac P r0 ∧ ∀ x, r0.is x → GT ws (.prodL x) r0.pos r := by
  cases h with
  | bad => exact ⟨_, .bad, fun _ _ => .bad⟩
  | «at» h =>
    cases h with
    | prodBad h => exact ⟨_, .at h, fun _ _ => .bad⟩
    | prod h k => exact ⟨_, .at h, fun x hx => by obtain rfl := of_is hx; exact .at k⟩
theorem gt_prodL_no {ws : List Wd} {P : Pos} {x : Tm} {r : Out Tm} (h : GT ws (.prodL x) P r) (hn : ¬ P.stands ws kStar) : r.pos = P ∧ r.is x := by
  cases h with
  | bad => exact ⟨rfl, is_bad⟩
  | «at» h =>
    cases h with
    | prodStop _ => exact ⟨rfl, is_ok rfl⟩
    | prodLBad h _ => exact absurd h hn
    | prodL h _ _ => exact absurd h hn
theorem gt_prodL_yes {ws : List Wd} {p : Nat} {x : Tm} {r : Out Tm} (h : GT ws (.prodL x) (.at p) r) (hs : IsS ws p kStar) : ∃ r', GT ws .fac (.at (p + 1)) r' ∧ ∀ y, r'.is y → GT ws (.prodL (tMul x y)) r'.pos r := by
  cases h with
  | «at» h =>
    cases h with
    | prodStop h => exact absurd hs h
    | prodLBad _ h => exact ⟨_, .at h, fun _ _ => .bad⟩
    | prodL _ h k => exact ⟨_, .at h, fun y hy => by obtain rfl := of_is hy; exact .at k⟩
theorem gt_sum {ws : List Wd} {P : Pos} {r : Out Tm} (h : GT ws .sum P r) : ∃ r0, GT ws .prod P r0 ∧ ∀ x, r0.is x → GT ws (.sumL x) r0.pos r := by
  cases h with
  | bad => exact ⟨_, .bad, fun _ _ => .bad⟩
  | «at» h =>
    cases h with
    | sumBad h => exact ⟨_, .at h, fun _ _ => .bad⟩
    | sum h k => exact ⟨_, .at h, fun x hx => by obtain rfl := of_is hx; exact .at k⟩
theorem plus_minus : kPlus ≠ kMinus := by decide
theorem gt_sumL_no {ws : List Wd} {P : Pos} {x : Tm} {r : Out Tm} (h : GT ws (.sumL x) P r) (hn : ¬ P.stands ws kPlus) (hm : ¬ P.stands ws kMinus) : r.pos = P ∧ r.is x := by
  cases h with
  | bad => exact ⟨rfl, is_bad⟩
  | «at» h =>
    cases h with
    | sumStop _ _ => exact ⟨rfl, is_ok rfl⟩
    | addBad h _ => exact absurd h hn
    | add h _ _ => exact absurd h hn
    | subBad h _ => exact absurd h hm
    | sub h _ _ => exact absurd h hm
theorem gt_sumL_add {ws : List Wd} {p : Nat} {x : Tm} {r : Out Tm} (h : GT ws (.sumL x) (.at p) r) (hs : IsS ws p kPlus) : ∃ r', GT ws .prod (.at (p + 1)) r' ∧ ∀ y, r'.is y → GT ws (.sumL (tAdd x y)) r'.pos r := by
  cases h with
  | «at» h =>
    cases h with
    | sumStop h _ => exact absurd hs h
    | addBad _ h => exact ⟨_, .at h, fun _ _ => .bad⟩
    | add _ h k => exact ⟨_, .at h, fun y hy => by obtain rfl := of_is hy; exact .at k⟩
    | subBad h _ => exact absurd h (hs.ne plus_minus)
    | sub h _ _ => exact absurd h (hs.ne plus_minus)
theorem gt_sumL_sub {ws : List Wd} {p : Nat} {x : Tm} {r : Out Tm} (h : GT ws (.sumL x) (.at p) r) (hs : IsS ws p kMinus) : ∃ r', GT ws .prod (.at (p + 1)) r' ∧ ∀ y, r'.is y → GT ws (.sumL (tSub x y)) r'.pos r := by
  cases h with
  | «at» h =>
    cases h with
    | sumStop _ h => exact absurd hs h
    | subBad _ h => exact ⟨_, .at h, fun _ _ => .bad⟩
    | sub _ h k => exact ⟨_, .at h, fun y hy => by obtain rfl := of_is hy; exact .at k⟩
    | addBad h _ => exact absurd h (hs.ne plus_minus.symm)
    | add h _ _ => exact absurd h (hs.ne plus_minus.symm)
theorem sq_minus : kSq ≠ kMinus := by decide
theorem gt_num {ws : List Wd} {p n : Nat} {r : Out Tm} (h : GT ws .fac (.at p) r) (hd : IsD ws p n) : r = .ok (.mk 0 n emp []) (p + 1) := by
  cases h with
  | «at» h =>
    cases h with
    | sqBad h _ => exact absurd hd h.nd
    | sqNo h _ _ => exact absurd hd h.nd
    | sq h _ _ => exact absurd hd h.nd
    | negBad h _ => exact absurd hd h.nd
    | neg h _ => exact absurd hd h.nd
    | name h => exact absurd hd h.nd
    | num h => rw [h.one hd]
    | none _ _ _ h => exact absurd hd (h _)
theorem gt_name {ws : List Wd} {p : Nat} {x : ByteArray} {r : Out Tm} (h : GT ws .fac (.at p) r) (hd : IsN ws p x) : r = .ok (.mk 1 0 x []) (p + 1) := by
  cases h with
  | «at» h =>
    cases h with
    | sqBad h _ => exact absurd hd h.nn
    | sqNo h _ _ => exact absurd hd h.nn
    | sq h _ _ => exact absurd hd h.nn
    | negBad h _ => exact absurd hd h.nn
    | neg h _ => exact absurd hd h.nn
    | name h => rw [h.one hd]
    | num h => exact absurd h hd.nd
    | none _ _ h _ => exact absurd hd (h _)
theorem gt_sq {ws : List Wd} {p : Nat} {r : Out Tm} (h : GT ws .fac (.at p) r) (hs : IsS ws p kSq) : ∃ r', GT ws .sum (.at (p + 1)) r' ∧ r'.pos.need ws kQs r.pos ∧ ∀ x, r'.is x → r.is x := by
  cases h with
  | «at» h =>
    cases h with
    | sqBad _ h => exact ⟨_, .at h, .inr ⟨fun h => h, rfl⟩, fun _ _ => is_bad⟩
    | sqNo _ h k => exact ⟨_, .at h, .inr ⟨k, rfl⟩, fun _ _ => is_bad⟩
    | sq _ h k => exact ⟨_, .at h, .inl ⟨_, rfl, k, rfl⟩, fun x hx => is_ok (of_is hx)⟩
    | negBad h _ => exact absurd h (hs.ne sq_minus)
    | neg h _ => exact absurd h (hs.ne sq_minus)
    | name h => exact absurd h hs.nn
    | num h => exact absurd h hs.nd
    | none h _ _ _ => exact absurd hs h
theorem gt_neg {ws : List Wd} {p : Nat} {r : Out Tm} (h : GT ws .fac (.at p) r) (hs : IsS ws p kMinus) : ∃ r', GT ws .fac (.at (p + 1)) r' ∧ r.pos = r'.pos ∧ ∀ x, r'.is x → r.is (tNeg x) := by
  cases h with
  | «at» h =>
    cases h with
    | negBad _ h => exact ⟨_, .at h, rfl, fun _ _ => is_bad⟩
    | neg _ h => exact ⟨_, .at h, rfl, fun x hx => is_ok (by rw [of_is hx])⟩
    | sqBad h _ => exact absurd h (hs.ne sq_minus.symm)
    | sqNo h _ _ => exact absurd h (hs.ne sq_minus.symm)
    | sq h _ _ => exact absurd h (hs.ne sq_minus.symm)
    | name h => exact absurd h hs.nn
    | num h => exact absurd h hs.nd
    | none _ h _ _ => exact absurd hs h
def Pos.kinds (ws : List Wd) (k : Nat) : Pos → Prop
  | .at p => ∃ y, ws[p]? = some y ∧ y.kind = k
  | .bad _ _ => False
theorem gt_none {ws : List Wd} {P : Pos} {r : Out Tm} (h : GT ws .fac P r) (h1 : ¬ P.kinds ws 1) (h0 : ¬ P.kinds ws 0) (hs : ¬ P.stands ws kSq) (hm : ¬ P.stands ws kMinus) : r.pos = P.ref 71 ∧ ∀ x, r.is x := by
  cases h with
  | bad => exact ⟨rfl, fun _ => is_bad⟩
  | «at» h =>
    cases h with
    | negBad h _ => exact absurd h hm
    | neg h _ => exact absurd h hm
    | sqBad h _ => exact absurd h hs
    | sqNo h _ _ => exact absurd h hs
    | sq h _ _ => exact absurd h hs
    | name h => exact absurd (by obtain ⟨u, hu, huk, _⟩ := h; exact ⟨u, hu, huk⟩) h0
    | num h => exact absurd (by obtain ⟨u, hu, huk, _⟩ := h; exact ⟨u, hu, huk⟩) h1
    | none _ _ _ _ => exact ⟨rfl, fun _ => is_bad⟩
/- formulas -/
def Out.lift : Out Fm → Out Rs
  | .ok f q => .ok (.f f) q
  | .bad e q => .bad e q
theorem lift_ok {r : Out Fm} {f : Fm} {q : Nat} (h : r.lift = .ok (.f f) q) : r = .ok f q := by
  cases r with
  | bad e q => cases h
  | ok a q => simp only [Out.lift, Out.ok.injEq, Rs.f.injEq] at h; rw [h.1, h.2]
theorem lift_bad {r : Out Fm} {e q : Nat} (h : r.lift = .bad e q) : r = .bad e q := by
  cases r with
  | ok a q => cases h
  | bad a q => simp only [Out.lift, Out.bad.injEq] at h; rw [h.1, h.2]
inductive GF (ws : List Wd) (k : QF) : Pos → Out Fm → Prop
  | «at» {p r} : PF ws k p r.lift → GF ws k (.at p) r
  | bad {y q} : GF ws k (.bad y q) (.bad y q)
theorem GF.ok {ws : List Wd} {k : QF} {p q : Nat} {f : Fm} (h : PF ws k p (.ok (.f f) q)) : GF ws k (.at p) (.ok f q) := .at h
theorem GF.no {ws : List Wd} {k : QF} {p e q : Nat} (h : PF ws k p (.bad e q)) : GF ws k (.at p) (.bad e q) := .at h
theorem GF.from {ws : List Wd} {k : QF} {P : Pos} {r : Out Fm} {N : Nat} (h : GF ws k P r) (hP : P.from N) : r.pos.from N := by
  cases h with
  | bad => trivial
  | «at» h =>
    have := h.far
    cases r with
    | bad e q => trivial
    | ok a q => simp only [Out.lift, Out.far] at this; exact Nat.le_trans hP (by omega)
/-- a level's further parts, from the left, f what is ahead -/
inductive GL (ws : List Wd) (n : Nat) (f : Fm) : Pos → Out Fm → Prop
  | no {p e q} : PF ws (.tail n) p (.bad e q) → GL ws n f (.at p) (.bad e q)
  | ok {p l q} : PF ws (.tail n) p (.ok (.l l) q) → GL ws n f (.at p) (.ok (foldL (opOf n) f l) q)
  | bad {y q} : GL ws n f (.bad y q) (.bad y q)
theorem fold_L {n : Nat} (hn : n ≠ 1) (f : Fm) (l : List Fm) : fold n f l = foldL (opOf n) f l := by unfold fold; rw [if_neg hn]
theorem gf_lev {ws : List Wd} {n : Nat} (hn : n < 4) (h1 : n ≠ 1) {P : Pos} {r : Out Fm} (h : GF ws (.lev n) P r) : ∃ r0, GF ws (.lev (n + 1)) P r0 ∧ ∀ f, r0.is f → GL ws n f r0.pos r := by
  cases h with
  | bad => exact ⟨_, .bad, fun _ _ => .bad⟩
  | @«at» p r h =>
    generalize hr : r.lift = r1 at h
    cases h with
    | un h => omega
    | levBad _ h => rw [lift_bad hr]; exact ⟨_, .no h, fun _ _ => .bad⟩
    | levTail _ h k => rw [lift_bad hr]; exact ⟨_, .ok h, fun f hf => by obtain rfl := of_is hf; exact .no k⟩
    | lev _ h k => rw [lift_ok hr]; exact ⟨_, .ok h, fun f hf => by obtain rfl := of_is hf; rw [fold_L h1]; exact .ok k⟩
theorem gl_no {ws : List Wd} {n : Nat} {f : Fm} {P : Pos} {r : Out Fm} (h : GL ws n f P r) (hn : ¬ P.stands ws (sgOf n)) : r.pos = P ∧ r.is f := by
  cases h with
  | bad => exact ⟨rfl, is_bad⟩
  | no h =>
    cases h with
    | tailBad _ h _ => exact absurd h hn
    | tailTail _ h _ _ => exact absurd h hn
  | ok h =>
    cases h with
    | stop _ _ => exact ⟨rfl, is_ok rfl⟩
    | tail _ h _ _ => exact absurd h hn
theorem gl_yes {ws : List Wd} {n : Nat} {f : Fm} {p : Nat} {r : Out Fm} (h : GL ws n f (.at p) r) (hs : IsS ws p (sgOf n)) : ∃ r', GF ws (.lev (n + 1)) (.at (p + 1)) r' ∧ ∀ g, r'.is g → GL ws n (fPair (opOf n) f g) r'.pos r := by
  cases h with
  | no h =>
    cases h with
    | tailBad _ _ h => exact ⟨_, .no h, fun _ _ => .bad⟩
    | tailTail _ _ h k => exact ⟨_, .ok h, fun g hg => by obtain rfl := of_is hg; exact .no k⟩
  | ok h =>
    cases h with
    | stop _ h => exact absurd hs h
    | tail _ _ h k => exact ⟨_, .ok h, fun g hg => by obtain rfl := of_is hg; exact .ok k⟩
theorem gf_to {ws : List Wd} {P : Pos} {r : Out Fm} (h : GF ws (.lev 1) P r) : ∃ r0, GF ws (.lev 2) P r0 ∧ (¬ r0.pos.stands ws kTo → r.pos = r0.pos ∧ ∀ f, r0.is f → r.is f) ∧ ∀ q, r0.pos = .at q → IsS ws q kTo → ∃ r', GF ws (.lev 1) (.at (q + 1)) r' ∧ r.pos = r'.pos ∧ ∀ f g, r0.is f → r'.is g → r.is (fPair 5 f g) := by
  cases h with
  | bad => exact ⟨_, .bad, fun _ => ⟨rfl, fun _ _ => is_bad⟩, fun q e => by cases e⟩
  | @«at» p r h =>
    generalize hr : r.lift = r1 at h
    cases h with
    | levBad _ h => rw [lift_bad hr]; exact ⟨_, .no h, fun _ => ⟨rfl, fun _ _ => is_bad⟩, fun q e => by cases e⟩
    | levTail _ h k =>
      rw [lift_bad hr]
      cases k with
      | tailBad h4 hs h2 => exact ⟨_, .ok h, fun hn => absurd hs hn, fun q e _ => by cases e; exact ⟨_, .no (.levBad h4 h2), rfl, fun _ _ _ _ => is_bad⟩⟩
      | tailTail h4 hs h2 h3 => exact ⟨_, .ok h, fun hn => absurd hs hn, fun q e _ => by cases e; exact ⟨_, .no (.levTail h4 h2 h3), rfl, fun _ _ _ _ => is_bad⟩⟩
    | lev h4 h k =>
      rw [lift_ok hr]
      cases k with
      | stop _ hs => exact ⟨_, .ok h, fun _ => ⟨rfl, fun f hf => is_ok (of_is hf)⟩, fun q e hq => by cases e; exact absurd hq hs⟩
      | tail _ hs h2 h3 => exact ⟨_, .ok h, fun hn => absurd hs hn, fun q e _ => by cases e; exact ⟨_, .ok (.lev h4 h2 h3), rfl, fun f g hf hg => is_ok (by rw [of_is hf, of_is hg]; rfl)⟩⟩
theorem gf_four {ws : List Wd} {P : Pos} {r : Out Fm} (h : GF ws (.lev 4) P r) : GF ws .un P r := by
  cases h with
  | bad => exact .bad
  | @«at» p r h =>
    generalize hr : r.lift = r1 at h
    cases h with
    | un h => subst hr; exact .at h
    | levBad h _ => omega
    | levTail h _ _ => omega
    | lev h _ _ => omega
/- quantified: behind the sign, or behind a comma -/
inductive GQ (ws : List Wd) (o : Int) : Pos → Out Fm → Prop
  | bad {y q} : GQ ws o (.bad y q) (.bad y q)
  | no {p e q} : PN ws p (.bad e q) → GQ ws o (.at p) (.bad e q)
  | dot {p l q} : PN ws p (.ok l q) → ¬ IsS ws q kDot → GQ ws o (.at p) (.bad 71 q)
  | un {p l q e q'} : PN ws p (.ok l q) → IsS ws q kDot → PF ws .un (q + 1) (.bad e q') → GQ ws o (.at p) (.bad e q')
  | ok {p l q a q'} : PN ws p (.ok l q) → IsS ws q kDot → PF ws .un (q + 1) (.ok (.f a) q') → GQ ws o (.at p) (.ok (quants o l a) q')
theorem gq_none {ws : List Wd} {o : Int} {P : Pos} {r : Out Fm} (h : GQ ws o P r) (hn : ¬ P.kinds ws 0) : r.pos = P.ref 71 ∧ ∀ f, r.is f := by
  have hh : ∀ p rr, P = .at p → PN ws p rr → rr = .bad 71 p := fun p rr e kk => by
    rw [e] at hn
    cases kk with
    | none _ => rfl
    | last h _ => exact absurd (by obtain ⟨u, hu, huk, _⟩ := h; exact ⟨u, hu, huk⟩) hn
    | bad h _ _ => exact absurd (by obtain ⟨u, hu, huk, _⟩ := h; exact ⟨u, hu, huk⟩) hn
    | more h _ _ => exact absurd (by obtain ⟨u, hu, huk, _⟩ := h; exact ⟨u, hu, huk⟩) hn
  cases h with
  | bad => exact ⟨rfl, fun _ => is_bad⟩
  | no h => cases hh _ _ rfl h; exact ⟨rfl, fun _ => is_bad⟩
  | dot h _ => cases hh _ _ rfl h
  | un h _ _ => cases hh _ _ rfl h
  | ok h _ _ => cases hh _ _ rfl h
/-- a name, and a comma behind it -/
theorem gq_more {ws : List Wd} {o : Int} {p : Nat} {x : ByteArray} {r : Out Fm} (h : GQ ws o (.at p) r) (hx : IsN ws p x) (hc : IsS ws (p + 1) kComma) : ∃ r', GQ ws o (.at (p + 2)) r' ∧ r.pos = r'.pos ∧ ∀ f, r'.is f → r.is (fQ o x f) := by
  have hh : ∀ rr, PN ws p rr → ∃ rr', PN ws (p + 2) rr' ∧ (∀ e q, rr = .bad e q → rr' = .bad e q) ∧ ∀ l q, rr = .ok l q → ∃ l', rr' = .ok l' q ∧ l = x :: l' := fun rr h => by
    cases h with
    | none h => exact absurd hx (h _)
    | last _ h => exact absurd hc h
    | bad h _ k => exact ⟨_, k, fun _ _ e => by cases e; rfl, fun _ _ e => by cases e⟩
    | more h _ k => exact ⟨_, k, fun _ _ e => (by cases e), fun _ _ e => by cases e; exact ⟨_, rfl, by rw [h.one hx]⟩⟩
  cases h with
  | no h =>
    obtain ⟨rr', h', k, _⟩ := hh _ h
    cases k _ _ rfl
    exact ⟨_, .no h', rfl, fun _ _ => is_bad⟩
  | dot h a =>
    obtain ⟨rr', h', _, k⟩ := hh _ h
    obtain ⟨l', rfl, _⟩ := k _ _ rfl
    exact ⟨_, .dot h' a, rfl, fun _ _ => is_bad⟩
  | un h a b =>
    obtain ⟨rr', h', _, k⟩ := hh _ h
    obtain ⟨l', rfl, _⟩ := k _ _ rfl
    exact ⟨_, .un h' a b, rfl, fun _ _ => is_bad⟩
  | ok h a b =>
    obtain ⟨rr', h', _, k⟩ := hh _ h
    obtain ⟨l', rfl, rfl⟩ := k _ _ rfl
    exact ⟨_, .ok h' a b, rfl, fun f hf => is_ok (by rw [of_is hf]; rfl)⟩
/-- the last name -/
theorem gq_last {ws : List Wd} {o : Int} {p : Nat} {x : ByteArray} {r : Out Fm} (h : GQ ws o (.at p) r) (hx : IsN ws p x) (hc : ¬ IsS ws (p + 1) kComma) : ∀ P', (Pos.at (p + 1)).need ws kDot P' → ∃ r', GF ws .un P' r' ∧ r.pos = r'.pos ∧ ∀ f, r'.is f → r.is (fQ o x f) := by
  have hh : ∀ rr, PN ws p rr → rr = .ok [x] (p + 1) := fun rr h => by
    cases h with
    | none h => exact absurd hx (h _)
    | last h _ => rw [h.one hx]
    | bad _ h _ => exact absurd h hc
    | more _ h _ => exact absurd h hc
  intro P' hP
  cases h with
  | no h => cases hh _ h
  | dot h a =>
    cases hh _ h
    rcases hP with ⟨q, e, hs, rfl⟩ | ⟨_, rfl⟩
    · cases e; exact absurd hs a
    · exact ⟨_, .bad, rfl, fun _ _ => is_bad⟩
  | un h a b =>
    cases hh _ h
    rcases hP with ⟨q, e, hs, rfl⟩ | ⟨hn, rfl⟩
    · cases e; exact ⟨_, .no b, rfl, fun _ _ => is_bad⟩
    · exact absurd a hn
  | ok h a b =>
    cases hh _ h
    rcases hP with ⟨q, e, hs, rfl⟩ | ⟨hn, rfl⟩
    · cases e; exact ⟨_, .ok b, rfl, fun f hf => is_ok (by rw [of_is hf]; rfl)⟩
    · exact absurd a hn
/- an atom -/
inductive GA (ws : List Wd) : Pos → Out Fm → Prop
  | «at» {p r} : PA ws p r → GA ws (.at p) r
  | bad {y q} : GA ws (.bad y q) (.bad y q)
/-- the sign of an atom: its number, where one stands -/
inductive GR (ws : List Wd) : Pos → Option Nat → Pos → Prop
  | bad {y q} : GR ws (.bad y q) none (.bad y q)
  | none {p} : (∀ x ∈ rels, ¬ IsS ws p x) → GR ws (.at p) none (.bad 71 p)
  | some {p i} : i < 7 → IsS ws p (rels.getD i emp) → GR ws (.at p) (some i) (.at (p + 1))
/-- behind the second term of a congruence: the word mod, a number -/
inductive GM (ws : List Wd) : Pos → Out Nat → Prop
  | bad {y q} : GM ws (.bad y q) (.bad y q)
  | none {p} : (∀ n, ¬ IsD ws p n) → GM ws (.at p) (.bad 71 p)
  | zero {p} : IsD ws p 0 → GM ws (.at p) (.bad 92 p)
  | ok {p n} : IsD ws p n → n ≠ 0 → GM ws (.at p) (.ok n (p + 1))
theorem rels_one : ∀ i, i < 7 → ∀ j, j < 7 → rels.getD i emp = rels.getD j emp → i = j := by decide +kernel
theorem rels_in (i : Nat) (h : i < 7) : rels.getD i emp ∈ rels := by
  rw [List.getD_eq_getElem?_getD, List.getElem?_eq_getElem (show i < rels.length from h)]
  exact List.getElem_mem _
theorem ga_of {ws : List Wd} {P : Pos} {r : Out Fm} (h : GA ws P r) : ∃ r1, GT ws .sum P r1 ∧ ∀ i P2, GR ws r1.pos i P2 → ∃ r3, GT ws .sum P2 r3 ∧
    (i ≠ some 6 → r.pos = r3.pos ∧ ∀ a b k, i = some k → r1.is a → r3.is b → r.is (.mk (9 + (k : Nat)) emp 0 [a, b] [])) ∧ (i = none → ∀ f, r.is f) ∧
    (i = some 6 → ∀ P4, r3.pos.need ws kMod P4 → ∃ r5, GM ws P4 r5 ∧ r.pos = r5.pos ∧ ∀ a b n, r1.is a → r3.is b → r5.is n → r.is (.mk 15 emp n [a, b] [])) := by
  cases h with
  | bad => exact ⟨_, .bad, fun i P2 h => by cases h; exact ⟨_, .bad, fun _ => ⟨rfl, fun _ _ _ e => by cases e⟩, fun _ _ => is_bad, fun e => by cases e⟩⟩
  | «at» h =>
    cases h with
    | bad1 h => exact ⟨_, .at h, fun i P2 h => by cases h; exact ⟨_, .bad, fun _ => ⟨rfl, fun _ _ _ e => by cases e⟩, fun _ _ => is_bad, fun e => by cases e⟩⟩
    | none h hn =>
      refine ⟨_, .at h, fun i P2 h => ?_⟩
      cases h with
      | none _ => exact ⟨_, .bad, fun _ => ⟨rfl, fun _ _ _ e => by cases e⟩, fun _ _ => is_bad, fun e => by cases e⟩
      | some hi hs => exact absurd hs (hn _ (rels_in _ hi))
    | @bad2 a q x e q' h hx hs k =>
      refine ⟨_, .at h, fun i P2 h => ?_⟩
      cases h with
      | none hn => exact absurd hs (hn _ hx)
      | some hi hs => exact ⟨_, .at k, fun _ => ⟨rfl, fun _ _ _ _ _ _ => is_bad⟩, fun _ _ => is_bad, fun _ P4 hP => by
          rcases hP with ⟨q, e, _, _⟩ | ⟨_, rfl⟩
          · cases e
          · exact ⟨_, .bad, rfl, fun _ _ _ _ _ _ => is_bad⟩⟩
    | @rel a q i b q' h hi hs k =>
      refine ⟨_, .at h, fun j P2 h => ?_⟩
      cases h with
      | none hn => exact absurd hs (hn _ (rels_in _ (by omega)))
      | @some _ j hj hs' =>
        obtain rfl := rels_one _ (by omega) _ hj (hs.one hs')
        exact ⟨_, .at k, fun _ => ⟨rfl, fun a b k e ha hb => by cases e; exact is_ok (by rw [of_is ha, of_is hb])⟩, fun e => (by cases e), fun e => by cases e; omega⟩
    | @noMod a q b q' h hs k hm =>
      refine ⟨_, .at h, fun j P2 h => ?_⟩
      cases h with
      | none hn => exact absurd hs (hn _ (rels_in _ (by omega)))
      | @some _ j hj hs' =>
        obtain rfl := rels_one _ (by omega) _ hj (hs.one hs')
        exact ⟨_, .at k, fun e => absurd rfl e, fun e => (by cases e), fun _ P4 hP => by
          rcases hP with ⟨q, e, hq, _⟩ | ⟨_, rfl⟩
          · cases e; exact absurd hq hm
          · exact ⟨_, .bad, rfl, fun _ _ _ _ _ _ => is_bad⟩⟩
    | @noNum a q b q' h hs k hm hd =>
      refine ⟨_, .at h, fun j P2 h => ?_⟩
      cases h with
      | none hn => exact absurd hs (hn _ (rels_in _ (by omega)))
      | @some _ j hj hs' =>
        obtain rfl := rels_one _ (by omega) _ hj (hs.one hs')
        exact ⟨_, .at k, fun e => absurd rfl e, fun e => (by cases e), fun _ P4 hP => by
          rcases hP with ⟨q, e, hq, rfl⟩ | ⟨hn, _⟩
          · cases e; exact ⟨_, .none hd, rfl, fun _ _ _ _ _ _ => is_bad⟩
          · exact absurd hm hn⟩
    | @zero a q b q' h hs k hm hd =>
      refine ⟨_, .at h, fun j P2 h => ?_⟩
      cases h with
      | none hn => exact absurd hs (hn _ (rels_in _ (by omega)))
      | @some _ j hj hs' =>
        obtain rfl := rels_one _ (by omega) _ hj (hs.one hs')
        exact ⟨_, .at k, fun e => absurd rfl e, fun e => (by cases e), fun _ P4 hP => by
          rcases hP with ⟨q, e, hq, rfl⟩ | ⟨hn, _⟩
          · cases e; exact ⟨_, .zero hd, rfl, fun _ _ _ _ _ _ => is_bad⟩
          · exact absurd hm hn⟩
    | @cong a q b q' n h hs k hm hd h0 =>
      refine ⟨_, .at h, fun j P2 h => ?_⟩
      cases h with
      | none hn => exact absurd hs (hn _ (rels_in _ (by omega)))
      | @some _ j hj hs' =>
        obtain rfl := rels_one _ (by omega) _ hj (hs.one hs')
        exact ⟨_, .at k, fun e => absurd rfl e, fun e => (by cases e), fun _ P4 hP => by
          rcases hP with ⟨q, e, hq, rfl⟩ | ⟨hn, _⟩
          · cases e; exact ⟨_, .ok hd h0, rfl, fun a b n ha hb hn => is_ok (by rw [of_is ha, of_is hb, of_is hn])⟩
          · exact absurd hm hn⟩
/- a unary, by what stands there -/
theorem uns_apart : ∀ x ∈ [kNot, kEx, kAll, kOpen, kTrue, kFalse], ∀ y ∈ [kNot, kEx, kAll, kOpen, kTrue, kFalse], (x == y) = decide (x = y) := by decide +kernel
abbrev uns : List ByteArray := [kNot, kEx, kAll, kOpen, kTrue, kFalse]
theorem noUn_not {ws : List Wd} {p : Nat} {x : ByteArray} (h : noUn ws p) (hx : x ∈ uns) : ¬ IsS ws p x := h x hx
theorem qu_two {x : ByteArray} {o : Int} (h : (x, o) ∈ [(kEx, (7 : Int)), (kAll, 8)]) : (x = kEx ∧ o = 7) ∨ (x = kAll ∧ o = 8) := by
  simp only [List.mem_cons, Prod.mk.injEq, List.not_mem_nil, or_false] at h
  exact h
/-- the form of a unary's sign -/
inductive GU (ws : List Wd) (p : Nat) (r : Out Fm) : Prop
  | not : IsS ws p kNot → (∃ r', GF ws .un (.at (p + 1)) r' ∧ r.pos = r'.pos ∧ ∀ f, r'.is f → r.is (fNot f)) → GU ws p r
  | qu {x o} : (x = kEx ∧ o = 7) ∨ (x = kAll ∧ o = 8) → IsS ws p x → GQ ws o (.at (p + 1)) r → GU ws p r
  | br : IsS ws p kOpen → (∃ r', GF ws (.lev 0) (.at (p + 1)) r' ∧ r'.pos.need ws kShut r.pos ∧ ∀ f, r'.is f → r.is f) → GU ws p r
  | tru : IsS ws p kTrue → r = .ok fTrue (p + 1) → GU ws p r
  | fls : IsS ws p kFalse → r = .ok fFalse (p + 1) → GU ws p r
  | atom : noUn ws p → GA ws (.at p) r → GU ws p r
theorem gu_of {ws : List Wd} {p : Nat} {r : Out Fm} (h : GF ws .un (.at p) r) : GU ws p r := by
  cases h with
  | «at» h =>
    generalize hr : r.lift = r1 at h
    cases h with
    | notBad h k => rw [lift_bad hr]; exact .not h ⟨_, .no k, rfl, fun _ _ => is_bad⟩
    | not h k => rw [lift_ok hr]; exact .not h ⟨_, .ok k, rfl, fun f hf => is_ok (by rw [of_is hf])⟩
    | quNames h s k => rw [lift_bad hr]; exact .qu (qu_two h) s (.no k)
    | quDot h s k d => rw [lift_bad hr]; exact .qu (qu_two h) s (.dot k d)
    | quBad h s k d u => rw [lift_bad hr]; exact .qu (qu_two h) s (.un k d u)
    | qu h s k d u => rw [lift_ok hr]; exact .qu (qu_two h) s (.ok k d u)
    | brBad h k => rw [lift_bad hr]; exact .br h ⟨_, .no k, .inr ⟨fun h => h, rfl⟩, fun _ _ => is_bad⟩
    | brNo h k n => rw [lift_bad hr]; exact .br h ⟨_, .ok k, .inr ⟨n, rfl⟩, fun _ _ => is_bad⟩
    | br h k n => rw [lift_ok hr]; exact .br h ⟨_, .ok k, .inl ⟨_, rfl, n, rfl⟩, fun f hf => is_ok (of_is hf)⟩
    | tru h => rw [lift_ok hr]; exact .tru h rfl
    | fls h => rw [lift_ok hr]; exact .fls h rfl
    | atomBad h k => rw [lift_bad hr]; exact .atom h (.at k)
    | atom h k => rw [lift_ok hr]; exact .atom h (.at k)
end Go.Proofs.YtabfhdmcljdjhaaDoor.Gl
/- The document's put, Together. -/
namespace Go.Proofs.YtabfhdmcljdjhaaDoor.Gl
open Go.RowKit
set_option linter.unusedVariables false

theorem Tryd.infoStr : (Tryd.prog.info? 9).map (fun i => (i.zero, i.size, i.bytes)) = some (some (.string emp), 1, 16) := by kernel_rfl
theorem owns_below {w w' : World} {base : Nat} {e : TypeId} {v : Value} {n : Nat} {xs : List Value} (h : w.ownsRow base e 1 v n xs) (hb : Below w.heap.size w w') : w'.ownsRow base e 1 v n xs := by
  refine ⟨h.1, ?_⟩
  rcases h.2 with hn | ⟨g, cap, cur, rfl, hbg, hgg, rest⟩
  · exact .inl hn
  · refine .inr ⟨g, cap, cur, rfl, hbg, ?_, rest⟩
    rw [hb.block g (Array.getElem?_eq_some_iff.1 hgg).1]
    exact hgg
theorem rds_of_owns {w : World} {base : Nat} {t : TypeId} {v : Value} {k : Nat} {ss : List ByteArray} (h : w.ownsRow base t 1 v k (cellsS ss)) : ∃ ro cr, v = .slice ro k cr ∧ RdS w ro k cr ss := by
  have h' := h
  obtain ⟨hl, hv⟩ := h'
  simp only [List.length_map, Nat.mul_one] at hl
  rcases hv with ⟨rfl, hn⟩ | ⟨g, cap, cur, rfl, hg, hh, hnc, hcm, hcs, hx⟩
  · subst hn
    exact ⟨none, 0, rfl, hl, Nat.le_refl _, by omega, fun _ => rfl, fun i hi => by omega⟩
  · refine ⟨some ⟨g, 0, none⟩, cap, rfl, hl, hnc, hcm, (fun h => nomatch h), (fun i hi => ⟨g, 0, rfl, ?_⟩)⟩
    rw [Nat.zero_add, h.cellAt i (by omega), List.getElem?_map, List.getElem?_eq_getElem (by omega)]
    simp [List.getD_eq_getElem?_getD, List.getElem?_eq_getElem (show i < ss.length by omega)]
theorem cell_new1 (W : World) (v : Value) (t : TypeId) : (W.alloc (.cells #[v] t)).cell? ⟨W.heap.size, 0, none⟩ = some v := by simp
theorem size_new1 {W : World} {n : Nat} (h : n ≤ W.heap.size) (a : Obj) : n ≤ (W.alloc a).heap.size := by simp; omega
/-- 'out = append(out, s)', the new element in a block g of its own -/
theorem wp_pushS {ops : Array Oper} {rest : List Oper} {o : Oper} {a : Act} {Q : Exit → Act → World → Prop} (W0 Wc : World) (B base : Nat) (hgd : o.guard = none) (s x : Operand)
    (ho : o.op = .call { callee := .builtin .append, args := #[s, x], argTypes := #[30, 30] }) (v : Value) (k : Nat) (O : List ByteArray) (hs : a.eval s = v) (g : Nat) (d : ByteArray) (hx : a.eval x = .slice (some ⟨g, 0, none⟩) 1 1)
    (hown : Wc.ownsRow base 9 1 v k (cellsS O)) (hcell : Wc.cell? ⟨g, 0, none⟩ = some (.string d)) (hbase : base ≤ Wc.heap.size) (hk : (k + 1) * 16 ≤ 140737488355328) (hbel : Below B W0 Wc) (hB : B ≤ base)
    (h : ∀ v' w', w'.ownsRow base 9 1 v' (k + 1) (cellsS (O ++ [d])) → Below B W0 w' → wpList Tryd.prog ops Q rest (a.put o.dst v') w') : wpList Tryd.prog ops Q (o :: rest) a Wc := by
  obtain ⟨i0, hi, hz0, hz1, hz2⟩ := info_parts Tryd.infoStr
  refine wpList_append_own _ hgd s x 30 ho base 9 i0 (.string emp) 1 16 Tryd.underlying30 hi hz0 hz1 hz2 rfl (by decide) _ k _ hs hown ⟨g, 0, none⟩ 1 1 [.string d] hx rfl ?_ ?_ (by unfold maxLen; omega) (by omega) hbase ?_
  · intro j u hj
    match j, hj with
    | 0, hj => simp at hj; subst hj; simpa [Addr.add] using hcell
  · intro u hu; simp at hu; subst hu; rfl
  · intro v' w' h1 h2 _
    refine h v' w' (by simpa [cellsS] using h1) (hbel.grown h2 (by omega) ?_)
    intro q hq
    have := hown.lt q hq
    omega
def ltS (x y : ByteArray) : Bool := Op.bytesLess x.toList y.toList
def leS (x y : ByteArray) : Bool := Op.bytesLess x.toList y.toList || x.toList == y.toList
/-- a name put into a rising list -/
def putL (s : ByteArray) : List ByteArray → List ByteArray
  | [] => [s]
  | x :: l => if leS s x = true then (if ltS s x = true then s :: x :: l else x :: l) else x :: putL s l
theorem putL_length (s : ByteArray) (l : List ByteArray) : (putL s l).length ≤ l.length + 1 := by
  induction l with
  | nil => simp [putL]
  | cons x l ih =>
    rw [putL]
    split
    · split <;> simp
    · simp only [List.length_cons]; omega
theorem take_snoc (T : List ByteArray) (k : Nat) (h : k < T.length) : T.take (k + 1) = T.take k ++ [T.getD k emp] := by
  rw [List.take_succ_eq_append_getElem h, sgetD_of h]
theorem drop_cons (T : List ByteArray) (k : Nat) (h : k < T.length) : T.drop k = T.getD k emp :: T.drop (k + 1) := by
  rw [List.drop_eq_getElem_cons h, sgetD_of h]
end Go.Proofs.YtabfhdmcljdjhaaDoor.Gl
/- The document's Together. -/
namespace Go.Proofs.YtabfhdmcljdjhaaDoor.Gl
open Go.RowKit
set_option linter.unusedVariables false

theorem owns_mono {w : World} {base base' : Nat} {e : TypeId} {v : Value} {n : Nat} {xs : List Value} (h : w.ownsRow base e 1 v n xs) (hb : base' ≤ base) : w.ownsRow base' e 1 v n xs := by
  refine ⟨h.1, ?_⟩
  rcases h.2 with hn | ⟨g, cap, cur, rfl, hbg, rest⟩
  · exact .inl hn
  · exact .inr ⟨g, cap, cur, rfl, by omega, rest⟩
/-- the names of a list, rising, each once -/
def togL (l : List ByteArray) : List ByteArray := l.foldl (fun o s => putL s o) []
theorem tog_take (T : List ByteArray) (k : Nat) (h : k < T.length) : togL (T.take (k + 1)) = putL (T.getD k emp) (togL (T.take k)) := by
  unfold togL
  rw [take_snoc T k h, List.foldl_append]
  rfl
theorem fold_length (l O : List ByteArray) : (l.foldl (fun o s => putL s o) O).length ≤ O.length + l.length := by
  induction l generalizing O with
  | nil => simp
  | cons x l ih =>
    have h1 := ih (putL x O)
    have h2 := putL_length x O
    simp only [List.foldl_cons, List.length_cons]
    omega
theorem tog_length (l : List ByteArray) : (togL l).length ≤ l.length := by
  have := fold_length l []
  simpa [togL] using this
end Go.Proofs.YtabfhdmcljdjhaaDoor.Gl
/- The document's Rises, Sorted. -/
namespace Go.Proofs.YtabfhdmcljdjhaaDoor.Gl
open Go.RowKit
set_option linter.unusedVariables false

theorem wrap_nat {q : Nat} (h : q ≤ 9223372036854775807) : IntKind.i64.wrap (q : Int) = (q : Int) := by
  rw [IntKind.wrap_i64]; omega
structure Cl (B : Nat) (W : World) (p : Addr) (v : Value) where
  w : World
  cell : w.cell? p = some v
  bel : Below B W w
theorem cl_call {B : Nat} {W : World} {p : Addr} {u : Value} {f : FuncId} {args : Array Value} {v : Value} (hB : B ≤ W.heap.size) (h : ∀ w, Calls Tryd.prog f args w fun e w' => e = .returned v ∧ Below w.heap.size w w') (n : Cl B W p u) :
    Calls Tryd.prog f args n.w fun e w'' => e = .returned v ∧ ∃ m : Cl B W p u, w'' = m.w :=
  (h n.w).mono fun e w' ⟨he, hb⟩ => ⟨he, ⟨w', (hb.cell (World.block_lt_of_cell? _ _ n.cell)).trans n.cell, n.bel.trans (hb.mono (Nat.le_trans hB n.bel.size))⟩, rfl⟩
theorem wp_region_cls {P : Program} {id : Nat} {Q : Exit → Act → World → Prop} {a : Act} {w : World} {l : List Oper} (C : World → Prop) (hm : P.follows .mixedOrders = true) (hB : Region.lexB .any l.toArray = true) (hC : C w.drew)
    (h : wpQuiet P l.toArray C (fun a' => ∀ w', C w' → Q .normal a' w') l a) : (Code.region id l.toArray true).wp P Q a w :=
  wp_region_quiet hm hB hC (by simpa using h)
/-- the texts are no longer than a text may be -/
def Short (T : List ByteArray) : Prop := ∀ x ∈ T, x.size ≤ 9223372036854775807
theorem Short.get {T : List ByteArray} (h : Short T) {i : Nat} (hi : i < T.length) : (T.getD i emp).size ≤ 9223372036854775807 := by
  rw [sgetD_of hi]; exact h _ (List.getElem_mem hi)
def RiseAt (T : List ByteArray) (i : Nat) : Prop := IsName (T.getD i emp) ∧ (0 < i → ltS (T.getD (i - 1) emp) (T.getD i emp) = true)
def Rise (T : List ByteArray) : Prop := ∀ i, i < T.length → RiseAt T i
end Go.Proofs.YtabfhdmcljdjhaaDoor.Gl
/- Trees in memory. -/
namespace Go.Proofs.YtabfhdmcljdjhaaDoor.Gl
open Go.RowKit
set_option linter.unusedVariables false

noncomputable def nmB (x : ByteArray) : Bool := @decide (IsName x) (Classical.propDecidable _)
theorem nmB_iff (x : ByteArray) : nmB x = true ↔ IsName x := by
  unfold nmB
  exact @decide_eq_true_iff _ (Classical.propDecidable _)
abbrev I64 (z : Int) : Prop := -9223372036854775808 ≤ z ∧ z ≤ 9223372036854775807
abbrev Sz (n : Nat) : Prop := n ≤ 9223372036854775807
/- a term's four cells, a formula's five; a slice of each -/
mutual
def RdT (W : World) : Tm → Value → Value → Value → Value → Prop
  | .mk o n x a, c0, c1, c2, c3 => c0 = .int .i64 o ∧ c1 = .int .i64 n ∧ c2 = .string x ∧ (I64 o ∧ I64 n ∧ Sz x.size) ∧ ∃ ao cap, c3 = .slice ao a.length cap ∧ a.length ≤ cap ∧ Sz cap ∧ RdTL W a ao 0
def RdTL (W : World) : List Tm → Option Addr → Nat → Prop
  | [], _, _ => True
  | t :: r, ao, i => (∃ g of c0 c1 c2 c3, ao = some ⟨g, of, none⟩ ∧ g < W.heap.size ∧ W.cell? ⟨g, of + i * 4, none⟩ = some c0 ∧ W.cell? ⟨g, of + i * 4 + 1, none⟩ = some c1 ∧ W.cell? ⟨g, of + i * 4 + 2, none⟩ = some c2 ∧ W.cell? ⟨g, of + i * 4 + 3, none⟩ = some c3 ∧ RdT W t c0 c1 c2 c3) ∧ RdTL W r ao (i + 1)
end
mutual
def RdF (W : World) : Fm → Value → Value → Value → Value → Value → Prop
  | .mk o x m t a, c0, c1, c2, c3, c4 => c0 = .int .i64 o ∧ c1 = .string x ∧ c2 = .int .i64 m ∧ (I64 o ∧ I64 m ∧ Sz x.size) ∧ (∃ ao cap, c3 = .slice ao t.length cap ∧ t.length ≤ cap ∧ Sz cap ∧ RdTL W t ao 0) ∧ ∃ ao cap, c4 = .slice ao a.length cap ∧ a.length ≤ cap ∧ Sz cap ∧ RdFL W a ao 0
def RdFL (W : World) : List Fm → Option Addr → Nat → Prop
  | [], _, _ => True
  | t :: r, ao, i => (∃ g of c0 c1 c2 c3 c4, ao = some ⟨g, of, none⟩ ∧ g < W.heap.size ∧ W.cell? ⟨g, of + i * 5, none⟩ = some c0 ∧ W.cell? ⟨g, of + i * 5 + 1, none⟩ = some c1 ∧ W.cell? ⟨g, of + i * 5 + 2, none⟩ = some c2 ∧ W.cell? ⟨g, of + i * 5 + 3, none⟩ = some c3 ∧ W.cell? ⟨g, of + i * 5 + 4, none⟩ = some c4 ∧ RdF W t c0 c1 c2 c3 c4) ∧ RdFL W r ao (i + 1)
end
theorem RdTL.get {W : World} {l : List Tm} {ao : Option Addr} {j : Nat} (h : RdTL W l ao j) : ∀ i (hi : i < l.length), ∃ g of c0 c1 c2 c3, ao = some ⟨g, of, none⟩ ∧ g < W.heap.size ∧ W.cell? ⟨g, of + (j + i) * 4, none⟩ = some c0 ∧ W.cell? ⟨g, of + (j + i) * 4 + 1, none⟩ = some c1 ∧ W.cell? ⟨g, of + (j + i) * 4 + 2, none⟩ = some c2 ∧ W.cell? ⟨g, of + (j + i) * 4 + 3, none⟩ = some c3 ∧ RdT W l[i] c0 c1 c2 c3 := by
  induction l generalizing j with
  | nil => intro i hi; simp at hi
  | cons t r ih =>
    intro i hi
    rw [RdTL] at h
    cases i with
    | zero => exact h.1
    | succ i =>
      have := ih h.2 i (by simpa using hi)
      rw [show j + 1 + i = j + (i + 1) by omega] at this
      exact this
theorem RdFL.get {W : World} {l : List Fm} {ao : Option Addr} {j : Nat} (h : RdFL W l ao j) : ∀ i (hi : i < l.length), ∃ g of c0 c1 c2 c3 c4, ao = some ⟨g, of, none⟩ ∧ g < W.heap.size ∧ W.cell? ⟨g, of + (j + i) * 5, none⟩ = some c0 ∧ W.cell? ⟨g, of + (j + i) * 5 + 1, none⟩ = some c1 ∧ W.cell? ⟨g, of + (j + i) * 5 + 2, none⟩ = some c2 ∧ W.cell? ⟨g, of + (j + i) * 5 + 3, none⟩ = some c3 ∧ W.cell? ⟨g, of + (j + i) * 5 + 4, none⟩ = some c4 ∧ RdF W l[i] c0 c1 c2 c3 c4 := by
  induction l generalizing j with
  | nil => intro i hi; simp at hi
  | cons t r ih =>
    intro i hi
    rw [RdFL] at h
    cases i with
    | zero => exact h.1
    | succ i =>
      have := ih h.2 i (by simpa using hi)
      rw [show j + 1 + i = j + (i + 1) by omega] at this
      exact this
/-- a term as a value -/
def TmV (W : World) (t : Tm) (v : Value) : Prop := ∃ c0 c1 c2 c3, v = .agg #[c0, c1, c2, c3] ∧ RdT W t c0 c1 c2 c3
def FmV (W : World) (f : Fm) (v : Value) : Prop := ∃ c0 c1 c2 c3 c4, v = .agg #[c0, c1, c2, c3, c4] ∧ RdF W f c0 c1 c2 c3 c4
theorem res_keep {w w4 : World} {vs : Array Value} {t : TypeId} (hb : Below (w.alloc (.cells vs t)).heap.size (w.alloc (.cells vs t)) w4) :
    (∀ ob o, (w4.alloc ob).cell? ⟨w.heap.size, o, none⟩ = vs[o]?) ∧ (∀ ob o, (w4.alloc ob).frozen? ⟨w.heap.size, o, none⟩ = false) ∧ (∀ o, w4.cell? ⟨w.heap.size, o, none⟩ = vs[o]?) ∧ ∀ o, w4.frozen? ⟨w.heap.size, o, none⟩ = false := by
  refine ⟨fun ob o => ?_, fun ob o => ?_, fun o => ?_, fun o => ?_⟩
  · rw [(bcell (bta hb ob)).1 _ _ (by simp)]; simp
  · rw [(bcell (bta hb ob)).2 _ _ (by simp)]; simp
  · rw [(bcell hb).1 _ _ (by simp)]; simp
  · rw [(bcell hb).2 _ _ (by simp)]; simp
theorem ba2 {w : World} {o : Obj} {w2 : World} (h : Below (w.alloc o).heap.size (w.alloc o) w2) : Below w.heap.size w w2 := ((Below.refl _ _).alloc (Nat.le_refl _) o).trans (h.mono (by simp))
/- kept by what keeps memory -/
theorem RdT.kept {W W' : World} (hb : Below W.heap.size W W') : ∀ t c0 c1 c2 c3, RdT W t c0 c1 c2 c3 → RdT W' t c0 c1 c2 c3 := by
  refine Tm.ind (fun o n x a ih c0 c1 c2 c3 h => ?_)
  rw [RdT] at h ⊢
  obtain ⟨h0, h1, h2, h3, ao, cap, h4, h5, h6, h7⟩ := h
  refine ⟨h0, h1, h2, h3, ao, cap, h4, h5, h6, ?_⟩
  have key : ∀ l : List Tm, (∀ t ∈ l, t ∈ a) → ∀ j, RdTL W l ao j → RdTL W' l ao j := by
    intro l
    induction l with
    | nil => intro _ j _; rw [RdTL]; trivial
    | cons t r ihr =>
      intro hm j h
      rw [RdTL] at h ⊢
      obtain ⟨⟨g, of, d0, d1, d2, d3, e, hg, k0, k1, k2, k3, hr⟩, hrest⟩ := h
      refine ⟨⟨g, of, d0, d1, d2, d3, e, Nat.lt_of_lt_of_le hg hb.size, ?_, ?_, ?_, ?_, ih t (hm t (List.mem_cons_self ..)) _ _ _ _ hr⟩, ihr (fun u hu => hm u (List.mem_cons_of_mem _ hu)) _ hrest⟩
      · exact (hb.cell (p := ⟨g, _, none⟩) hg).trans k0
      · exact (hb.cell (p := ⟨g, _, none⟩) hg).trans k1
      · exact (hb.cell (p := ⟨g, _, none⟩) hg).trans k2
      · exact (hb.cell (p := ⟨g, _, none⟩) hg).trans k3
  exact key a (fun _ h => h) 0 h7
theorem RdTL.kept {W W' : World} (hb : Below W.heap.size W W') (ao : Option Addr) : ∀ l j, RdTL W l ao j → RdTL W' l ao j := by
  intro l
  induction l with
  | nil => intro j _; rw [RdTL]; trivial
  | cons t r ihr =>
    intro j h
    rw [RdTL] at h ⊢
    obtain ⟨⟨g, of, d0, d1, d2, d3, e, hg, k0, k1, k2, k3, hr⟩, hrest⟩ := h
    refine ⟨⟨g, of, d0, d1, d2, d3, e, Nat.lt_of_lt_of_le hg hb.size, ?_, ?_, ?_, ?_, hr.kept hb⟩, ihr _ hrest⟩
    · exact (hb.cell (p := ⟨g, _, none⟩) hg).trans k0
    · exact (hb.cell (p := ⟨g, _, none⟩) hg).trans k1
    · exact (hb.cell (p := ⟨g, _, none⟩) hg).trans k2
    · exact (hb.cell (p := ⟨g, _, none⟩) hg).trans k3
theorem RdF.kept {W W' : World} (hb : Below W.heap.size W W') : ∀ f c0 c1 c2 c3 c4, RdF W f c0 c1 c2 c3 c4 → RdF W' f c0 c1 c2 c3 c4 := by
  refine Fm.ind (fun o x m t a ih c0 c1 c2 c3 c4 h => ?_)
  rw [RdF] at h ⊢
  obtain ⟨h0, h1, h2, h3, ⟨bo, bap, b4, b5, b6, b7⟩, ao, cap, h4, h5, h6, h7⟩ := h
  refine ⟨h0, h1, h2, h3, ⟨bo, bap, b4, b5, b6, b7.kept hb⟩, ao, cap, h4, h5, h6, ?_⟩
  have key : ∀ l : List Fm, (∀ t ∈ l, t ∈ a) → ∀ j, RdFL W l ao j → RdFL W' l ao j := by
    intro l
    induction l with
    | nil => intro _ j _; rw [RdFL]; trivial
    | cons t r ihr =>
      intro hm j h
      rw [RdFL] at h ⊢
      obtain ⟨⟨g, of, d0, d1, d2, d3, d4, e, hg, k0, k1, k2, k3, k4, hr⟩, hrest⟩ := h
      refine ⟨⟨g, of, d0, d1, d2, d3, d4, e, Nat.lt_of_lt_of_le hg hb.size, ?_, ?_, ?_, ?_, ?_, ih t (hm t (List.mem_cons_self ..)) _ _ _ _ _ hr⟩, ihr (fun u hu => hm u (List.mem_cons_of_mem _ hu)) _ hrest⟩
      · exact (hb.cell (p := ⟨g, _, none⟩) hg).trans k0
      · exact (hb.cell (p := ⟨g, _, none⟩) hg).trans k1
      · exact (hb.cell (p := ⟨g, _, none⟩) hg).trans k2
      · exact (hb.cell (p := ⟨g, _, none⟩) hg).trans k3
      · exact (hb.cell (p := ⟨g, _, none⟩) hg).trans k4
  exact key a (fun _ h => h) 0 h7
theorem RdF.keep {W W' : World} {f : Fm} {c0 c1 c2 c3 c4 : Value} (h : RdF W f c0 c1 c2 c3 c4) (hb : Below W.heap.size W W') : RdF W' f c0 c1 c2 c3 c4 := RdF.kept hb f _ _ _ _ _ h
end Go.Proofs.YtabfhdmcljdjhaaDoor.Gl
/- Trees in new memory, blocks: of no program. -/
namespace Go.Proofs.YtabfhdmcljdjhaaDoor.Gl
open Go.RowKit
set_option linter.unusedVariables false

/-- all but block b is kept -/
structure Bux (b : Nat) (w w' : World) : Prop where
  os : w'.os = w.os
  tape : w'.tape = w.tape
  output : w'.output = w.output
  size : w.heap.size ≤ w'.heap.size
  block : ∀ k, k < w.heap.size → k ≠ b → w'.heap[k]? = w.heap[k]?
theorem Bux.refl (b : Nat) (w : World) : Bux b w w := ⟨rfl, rfl, rfl, Nat.le_refl _, fun _ _ _ => rfl⟩
theorem Bux.trans {b : Nat} {w w1 w2 : World} (h : Bux b w w1) (k : Bux b w1 w2) : Bux b w w2 :=
  ⟨k.os.trans h.os, k.tape.trans h.tape, k.output.trans h.output, Nat.le_trans h.size k.size, fun i hi hn => (k.block i (Nat.lt_of_lt_of_le hi h.size) hn).trans (h.block i hi hn)⟩
theorem Bux.of {b : Nat} {w w' : World} (h : Below w.heap.size w w') : Bux b w w' := ⟨h.os, h.tape, h.output, h.size, fun i hi _ => h.block i hi⟩
theorem Bux.below {b B : Nat} {w w' : World} (h : Bux b w w') (hb : B ≤ b) (hs : B ≤ w.heap.size) : Below B w w' :=
  ⟨h.os, h.tape, h.output, h.size, fun i hi => h.block i (by omega) (by omega)⟩
theorem Bux.set {b : Nat} {w w' : World} (h : Bux b w w') (o : Nat) (v : Value) : Bux b w (w'.setCell ⟨b, o, none⟩ v) :=
  h.trans ⟨rfl, rfl, rfl, by simp [World.setCell], fun k hk hn => Below.heap_setCell _ _ _ _ hn⟩
theorem txcell {w : World} {b : Nat} {vs : Array Value} {t : TypeId} (h : w.heap[b]? = some (Obj.cells vs t)) (i : Nat) (v : Value) (hv : vs[i]? = some v) : w.cell? ⟨b, i, none⟩ = some v ∧ w.frozen? ⟨b, i, none⟩ = false := by
  constructor <;> simp [World.cell?, World.frozen?, h, hv]
/-- the words of a text in memory -/
structure TxW (W : World) (s : ByteArray) (ws : List Wd) (ao : Option Addr) (n cap : Nat) : Prop where
  rd : RdW W ao n cap (ws.map (full s))
  small : n ≤ 4096
theorem TxW.len {W : World} {s : ByteArray} {ws : List Wd} {ao : Option Addr} {n cap : Nat} (h : TxW W s ws ao n cap) : ws.length = n := by
  have := h.rd.eqlen
  simpa using this
theorem TxW.get {W w : World} {s : ByteArray} {ws : List Wd} {ao : Option Addr} {n cap : Nat} (h : TxW W s ws ao n cap) (hW : Below W.heap.size W w) {p : Nat} (hp : p < n) :
    ∃ x g off, ws[p]? = some x ∧ ao = some ⟨g, off, none⟩ ∧ g < W.heap.size ∧ w.cell? ⟨g, off + p * 5, none⟩ = some (.int .i64 (x.kind : Nat)) ∧ w.cell? ⟨g, off + p * 5 + 1, none⟩ = some (.string x.text) ∧ w.cell? ⟨g, off + p * 5 + 2, none⟩ = some (.int .i64 (x.num : Nat)) ∧
      w.cell? ⟨g, off + p * 5 + 3, none⟩ = some (.int .i64 (x.byte : Nat)) ∧ w.cell? ⟨g, off + p * 5 + 4, none⟩ = some (.int .i64 (cnt (s.extract 0 x.byte) : Nat)) := by
  have hl := h.len
  obtain ⟨g, off, hao, hg, c0, c1, c2, c3, c4⟩ := (h.rd.below (Nat.le_refl _) hW).cell p hp
  obtain ⟨g', off', hao', hg', _⟩ := h.rd.cell p hp
  have e : (ws.map (full s)).getD p default = full s (ws[p]'(by omega)) := by
    rw [List.getD_eq_getElem?_getD, List.getElem?_map, List.getElem?_eq_getElem (by omega)]
    rfl
  rw [e] at c0 c1 c2 c3 c4
  rw [hao] at hao'
  cases hao'
  exact ⟨ws[p]'(by omega), g, off, List.getElem?_eq_getElem _, hao, hg', c0, c1, c2, c3, c4⟩
theorem tx_set {w : World} {b : Nat} {vs : Array Value} {t : TypeId} (h : w.heap[b]? = some (Obj.cells vs t)) (i : Nat) (v : Value) : (w.setCell ⟨b, i, none⟩ v).heap[b]? = some (Obj.cells (vs.setIfInBounds i v) t) := by
  obtain ⟨hlt, hk⟩ := Array.getElem?_eq_some_iff.1 h
  show (w.heap.modify b _)[b]? = _
  rw [Array.getElem?_eq_getElem (by rw [Array.size_modify]; exact hlt), Array.getElem_modify_self, hk]
  rfl
theorem Bux.cellN {b : Nat} {w w' : World} (h : Bux b w w') {g i : Nat} (hg : g < w.heap.size) (hne : g ≠ b) : w'.cell? ⟨g, i, none⟩ = w.cell? ⟨g, i, none⟩ := World.cell?_of_block (w := w) (h.block g hg hne)
def KdAt (ws : List Wd) (p k : Nat) : Prop := ∃ y, ws[p]? = some y ∧ y.kind = k
abbrev Ge (base : Nat) : Nat → Prop := fun k => base ≤ k
mutual
def RdTn (P : Nat → Prop) (W : World) : Tm → Value → Value → Value → Value → Prop
  | .mk o n x a, c0, c1, c2, c3 => c0 = .int .i64 o ∧ c1 = .int .i64 n ∧ c2 = .string x ∧ (I64 o ∧ I64 n ∧ Sz x.size) ∧ ∃ ao cap, c3 = .slice ao a.length cap ∧ a.length ≤ cap ∧ Sz cap ∧ RdTnL P W a ao 0
def RdTnL (P : Nat → Prop) (W : World) : List Tm → Option Addr → Nat → Prop
  | [], _, _ => True
  | t :: r, ao, i => (∃ g of c0 c1 c2 c3, ao = some ⟨g, of, none⟩ ∧ P g ∧ g < W.heap.size ∧ W.cell? ⟨g, of + i * 4, none⟩ = some c0 ∧ W.cell? ⟨g, of + i * 4 + 1, none⟩ = some c1 ∧ W.cell? ⟨g, of + i * 4 + 2, none⟩ = some c2 ∧ W.cell? ⟨g, of + i * 4 + 3, none⟩ = some c3 ∧ RdTn P W t c0 c1 c2 c3) ∧ RdTnL P W r ao (i + 1)
end
/-- what lies from base on lies as it lay -/
structure Hi (P : Nat → Prop) (W W' : World) : Prop where
  size : W.heap.size ≤ W'.heap.size
  block : ∀ k, P k → k < W.heap.size → W'.heap[k]? = W.heap[k]?
theorem Hi.refl (P : Nat → Prop) (W : World) : Hi P W W := ⟨Nat.le_refl _, fun _ _ _ => rfl⟩
theorem Hi.trans {P : Nat → Prop} {A B C : World} (h : Hi P A B) (k : Hi P B C) : Hi P A C := ⟨Nat.le_trans h.size k.size, fun i hi hlt => (k.block i hi (Nat.lt_of_lt_of_le hlt h.size)).trans (h.block i hi hlt)⟩
theorem Hi.mono {P P' : Nat → Prop} {A B : World} (h : Hi P A B) (hb : ∀ k, P' k → P k) : Hi P' A B := ⟨h.size, fun k hk hlt => h.block k (hb k hk) hlt⟩
theorem Hi.of {P : Nat → Prop} {A B : World} (h : Below A.heap.size A B) : Hi P A B := ⟨h.size, fun k _ hlt => h.block k hlt⟩
theorem Hi.but {P : Nat → Prop} {b : Nat} {A B : World} (h : Bux b A B) (hb : ∀ k, P k → k ≠ b) : Hi P A B := ⟨h.size, fun k hk hlt => h.block k hlt (hb k hk)⟩
theorem Hi.set {P : Nat → Prop} {A B : World} (h : Hi P A B) {g : Nat} (hg : ∀ k, P k → k ≠ g) (i : Nat) (v : Value) : Hi P A (B.setCell ⟨g, i, none⟩ v) := ⟨Nat.le_trans h.size ((Below.refl 0 B).setCell (p := ⟨g, i, none⟩) (Nat.zero_le _) v).size, fun k hk hlt => (Below.heap_setCell _ _ _ k (hg k hk)).trans (h.block k hk hlt)⟩
theorem RdTn.keep {P : Nat → Prop} {W W' : World} (hb : Hi P W W') : ∀ t c0 c1 c2 c3, RdTn P W t c0 c1 c2 c3 → RdTn P W' t c0 c1 c2 c3 := by
  refine Tm.ind (fun o n x a ih c0 c1 c2 c3 h => ?_)
  rw [RdTn] at h ⊢
  obtain ⟨h0, h1, h2, h3, ao, cap, h4, h5, h6, h7⟩ := h
  refine ⟨h0, h1, h2, h3, ao, cap, h4, h5, h6, ?_⟩
  have key : ∀ l : List Tm, (∀ t ∈ l, t ∈ a) → ∀ j, RdTnL P W l ao j → RdTnL P W' l ao j := by
    intro l
    induction l with
    | nil => intro _ j _; rw [RdTnL]; trivial
    | cons t r ihr =>
      intro hm j h
      rw [RdTnL] at h ⊢
      obtain ⟨⟨g, of, d0, d1, d2, d3, e, hbg, hg, k0, k1, k2, k3, hr⟩, hrest⟩ := h
      have hc : ∀ i, W'.cell? ⟨g, i, none⟩ = W.cell? ⟨g, i, none⟩ := fun i => World.cell?_of_block (w := W) (hb.block g hbg hg)
      exact ⟨⟨g, of, d0, d1, d2, d3, e, hbg, Nat.lt_of_lt_of_le hg hb.size, (hc _).trans k0, (hc _).trans k1, (hc _).trans k2, (hc _).trans k3, ih t (hm t (List.mem_cons_self ..)) _ _ _ _ hr⟩, ihr (fun u hu => hm u (List.mem_cons_of_mem _ hu)) _ hrest⟩
  exact key a (fun _ h => h) 0 h7
theorem RdTn.low {P P' : Nat → Prop} {W : World} (hb : ∀ k, k < W.heap.size → P k → P' k) : ∀ t c0 c1 c2 c3, RdTn P W t c0 c1 c2 c3 → RdTn P' W t c0 c1 c2 c3 := by
  refine Tm.ind (fun o n x a ih c0 c1 c2 c3 h => ?_)
  rw [RdTn] at h ⊢
  obtain ⟨h0, h1, h2, h3, ao, cap, h4, h5, h6, h7⟩ := h
  refine ⟨h0, h1, h2, h3, ao, cap, h4, h5, h6, ?_⟩
  have key : ∀ l : List Tm, (∀ t ∈ l, t ∈ a) → ∀ j, RdTnL P W l ao j → RdTnL P' W l ao j := by
    intro l
    induction l with
    | nil => intro _ j _; rw [RdTnL]; trivial
    | cons t r ihr =>
      intro hm j h
      rw [RdTnL] at h ⊢
      obtain ⟨⟨g, of, d0, d1, d2, d3, e, hbg, hg, k0, k1, k2, k3, hr⟩, hrest⟩ := h
      exact ⟨⟨g, of, d0, d1, d2, d3, e, hb g hg hbg, hg, k0, k1, k2, k3, ih t (hm t (List.mem_cons_self ..)) _ _ _ _ hr⟩, ihr (fun u hu => hm u (List.mem_cons_of_mem _ hu)) _ hrest⟩
  exact key a (fun _ h => h) 0 h7
theorem RdTn.plain {P : Nat → Prop} {W : World} : ∀ t c0 c1 c2 c3, RdTn P W t c0 c1 c2 c3 → RdT W t c0 c1 c2 c3 := by
  refine Tm.ind (fun o n x a ih c0 c1 c2 c3 h => ?_)
  rw [RdTn] at h
  rw [RdT]
  obtain ⟨h0, h1, h2, h3, ao, cap, h4, h5, h6, h7⟩ := h
  refine ⟨h0, h1, h2, h3, ao, cap, h4, h5, h6, ?_⟩
  have key : ∀ l : List Tm, (∀ t ∈ l, t ∈ a) → ∀ j, RdTnL P W l ao j → RdTL W l ao j := by
    intro l
    induction l with
    | nil => intro _ j _; rw [RdTL]; trivial
    | cons t r ihr =>
      intro hm j h
      rw [RdTnL] at h
      rw [RdTL]
      obtain ⟨⟨g, of, d0, d1, d2, d3, e, hbg, hg, k0, k1, k2, k3, hr⟩, hrest⟩ := h
      exact ⟨⟨g, of, d0, d1, d2, d3, e, hg, k0, k1, k2, k3, ih t (hm t (List.mem_cons_self ..)) _ _ _ _ hr⟩, ihr (fun u hu => hm u (List.mem_cons_of_mem _ hu)) _ hrest⟩
  exact key a (fun _ h => h) 0 h7
/-- a term's value, written out, its lists in new memory -/
def TmN (P : Nat → Prop) (W : World) (t : Tm) (v : Value) : Prop := ∃ o m x ao n c, v = .agg #[.int .i64 o, .int .i64 m, .string x, .slice ao n c] ∧ RdTn P W t (.int .i64 o) (.int .i64 m) (.string x) (.slice ao n c)
theorem TmN.keep {P : Nat → Prop} {W W' : World} {t : Tm} {v : Value} (h : TmN P W t v) (hb : Hi P W W') : TmN P W' t v := by
  obtain ⟨o, m, x, ao, n, c, e, hr⟩ := h
  exact ⟨o, m, x, ao, n, c, e, hr.keep hb⟩
theorem TmN.low {P P' : Nat → Prop} {W : World} {t : Tm} {v : Value} (h : TmN P W t v) (hb : ∀ k, k < W.heap.size → P k → P' k) : TmN P' W t v := by
  obtain ⟨o, m, x, ao, n, c, e, hr⟩ := h
  exact ⟨o, m, x, ao, n, c, e, hr.low hb⟩
theorem TmN.plain {P : Nat → Prop} {W : World} {t : Tm} {v : Value} (h : TmN P W t v) : TmV W t v := by
  obtain ⟨o, m, x, ao, n, c, e, hr⟩ := h
  exact ⟨_, _, _, _, e, hr.plain⟩
/-- a block of a result -/
def Rb (w : World) (B : Nat) (vs : Array Value) (t : TypeId) : Prop := w.heap[B]? = some (Obj.cells vs t)
theorem Rb.keep {w w' : World} {B : Nat} {vs : Array Value} {t : TypeId} (h : Rb w B vs t) (hb : Below w.heap.size w w') : Rb w' B vs t := (hb.block B (Array.getElem?_eq_some_iff.1 h).1).trans h
theorem Rb.but {w w' : World} {B b : Nat} {vs : Array Value} {t : TypeId} (h : Rb w B vs t) (hb : Bux b w w') (hne : B ≠ b) : Rb w' B vs t := (hb.block B (Array.getElem?_eq_some_iff.1 h).1 hne).trans h
theorem but_new {b B : Nat} {w w' : World} (h : Bux b w w') (hB : w.heap.size ≤ B) (i : Nat) (v : Value) : Bux b w (w'.setCell ⟨B, i, none⟩ v) :=
  ⟨h.os, h.tape, h.output, Nat.le_trans h.size ((Below.refl 0 w').setCell (p := ⟨B, i, none⟩) (Nat.zero_le _) v).size, fun k hk hne => (Below.heap_setCell _ _ _ k (by simp; omega)).trans (h.block k hk hne)⟩
abbrev zT : Array Value := #[.int .i64 0, .int .i64 0, .string emp, .slice none 0 0]
theorem rb_new (w : World) (vs : Array Value) (t : TypeId) : Rb (w.alloc (.cells vs t)) w.heap.size vs t := by
  show (w.heap.push _)[w.heap.size]? = _
  simp
theorem bal (w : World) (o : Obj) : Below w.heap.size w (w.alloc o) := (Below.refl _ _).alloc (Nat.le_refl _) _
theorem rb_four {w : World} {B : Nat} {vs : Array Value} {t : TypeId} (h : Rb w B vs t) (hs : vs.size = 4) (v0 v1 v2 v3 : Value) : Rb ((((w.setCell ⟨B, 0, none⟩ v0).setCell ⟨B, 1, none⟩ v1).setCell ⟨B, 2, none⟩ v2).setCell ⟨B, 3, none⟩ v3) B #[v0, v1, v2, v3] t := by
  have h1 := tx_set (tx_set (tx_set (tx_set h 0 v0) 1 v1) 2 v2) 3 v3
  have e : (((vs.setIfInBounds 0 v0).setIfInBounds 1 v1).setIfInBounds 2 v2).setIfInBounds 3 v3 = #[v0, v1, v2, v3] := by
    apply Array.ext
    · simp [hs]
    · intro i hi1 hi2
      simp only [Array.size_setIfInBounds, hs] at hi1
      rcases (show i = 0 ∨ i = 1 ∨ i = 2 ∨ i = 3 by omega) with rfl | rfl | rfl | rfl <;> simp [hs]
  rw [e] at h1
  exact h1
theorem mk1 {P : Nat → Prop} {g : Nat} {W : World} {x : Tm} {c0 c1 c2 c3 : Value} {t : TypeId} (h : RdTn P W x c0 c1 c2 c3) (hg : W.heap.size = g) (hb : P g) (o n : Int) (nm : ByteArray) (hi : I64 o ∧ I64 n ∧ Sz nm.size) : RdTn P (W.alloc (.cells #[c0, c1, c2, c3] t)) (.mk o n nm [x]) (.int .i64 o) (.int .i64 n) (.string nm) (.slice (some ⟨g, 0, none⟩) 1 1) := by
  have hR : Rb (W.alloc (.cells #[c0, c1, c2, c3] t)) g #[c0, c1, c2, c3] t := by rw [← hg]; exact rb_new W _ _
  have hk := h.keep (Hi.of (bal W (.cells #[c0, c1, c2, c3] t)))
  rw [RdTn]
  refine ⟨rfl, rfl, rfl, hi, some ⟨g, 0, none⟩, 1, rfl, Nat.le_refl _, by decide, ?_⟩
  rw [RdTnL, RdTnL]
  exact ⟨⟨g, 0, c0, c1, c2, c3, rfl, hb, (Array.getElem?_eq_some_iff.1 hR).1, (txcell hR 0 _ rfl).1, (txcell hR 1 _ rfl).1, (txcell hR 2 _ rfl).1, (txcell hR 3 _ rfl).1, hk⟩, trivial⟩
theorem mk2 {P : Nat → Prop} {g : Nat} {W : World} {x y : Tm} {c0 c1 c2 c3 d0 d1 d2 d3 : Value} {t : TypeId} (h : RdTn P W x c0 c1 c2 c3) (k : RdTn P W y d0 d1 d2 d3) (hg : W.heap.size = g) (hb : P g) (o n : Int) (nm : ByteArray) (hi : I64 o ∧ I64 n ∧ Sz nm.size) : RdTn P (W.alloc (.cells #[c0, c1, c2, c3, d0, d1, d2, d3] t)) (.mk o n nm [x, y]) (.int .i64 o) (.int .i64 n) (.string nm) (.slice (some ⟨g, 0, none⟩) 2 2) := by
  have hR : Rb (W.alloc (.cells #[c0, c1, c2, c3, d0, d1, d2, d3] t)) g #[c0, c1, c2, c3, d0, d1, d2, d3] t := by rw [← hg]; exact rb_new W _ _
  have hk := h.keep (Hi.of (bal W (.cells #[c0, c1, c2, c3, d0, d1, d2, d3] t)))
  have hk2 := k.keep (Hi.of (bal W (.cells #[c0, c1, c2, c3, d0, d1, d2, d3] t)))
  rw [RdTn]
  refine ⟨rfl, rfl, rfl, hi, some ⟨g, 0, none⟩, 2, rfl, Nat.le_refl _, by decide, ?_⟩
  rw [RdTnL, RdTnL, RdTnL]
  exact ⟨⟨g, 0, c0, c1, c2, c3, rfl, hb, (Array.getElem?_eq_some_iff.1 hR).1, (txcell hR 0 _ rfl).1, (txcell hR 1 _ rfl).1, (txcell hR 2 _ rfl).1, (txcell hR 3 _ rfl).1, hk⟩, ⟨g, 0, d0, d1, d2, d3, rfl, hb, (Array.getElem?_eq_some_iff.1 hR).1, (txcell hR 4 _ rfl).1, (txcell hR 5 _ rfl).1, (txcell hR 6 _ rfl).1, (txcell hR 7 _ rfl).1, hk2⟩, trivial⟩
theorem leafT {P : Nat → Prop} {W : World} (o n : Int) (nm : ByteArray) (hi : I64 o ∧ I64 n ∧ Sz nm.size) : RdTn P W (.mk o n nm []) (.int .i64 o) (.int .i64 n) (.string nm) (.slice none 0 0) := by
  rw [RdTn]
  exact ⟨rfl, rfl, rfl, hi, none, 0, rfl, Nat.le_refl _, by decide, by rw [RdTnL]; trivial⟩
theorem sz_emp : Sz emp.size := by decide
theorem IsS.noK {ws : List Wd} {p k : Nat} {x : ByteArray} (h : IsS ws p x) (hk : k ≠ 2) : ¬ KdAt ws p k := by
  rintro ⟨y, hy, hyk⟩
  obtain ⟨z, hz, hzk, _⟩ := h
  rw [hy] at hz
  cases hz
  omega
theorem IsN.noS {ws : List Wd} {p : Nat} {x y : ByteArray} (h : IsN ws p x) : ¬ IsS ws p y := by
  rintro ⟨z, hz, hzk, _⟩
  obtain ⟨u, hu, huk, _⟩ := h
  rw [hu] at hz
  cases hz
  omega
theorem IsD.noS {ws : List Wd} {p d : Nat} {y : ByteArray} (h : IsD ws p d) : ¬ IsS ws p y := by
  rintro ⟨z, hz, hzk, _⟩
  obtain ⟨u, hu, huk, _⟩ := h
  rw [hu] at hz
  cases hz
  omega
theorem IsN.kd {ws : List Wd} {p : Nat} {x : ByteArray} (h : IsN ws p x) : KdAt ws p 0 := by obtain ⟨u, hu, huk, _⟩ := h; exact ⟨u, hu, huk⟩
theorem IsD.kd {ws : List Wd} {p d : Nat} (h : IsD ws p d) : KdAt ws p 1 := by obtain ⟨u, hu, huk, _⟩ := h; exact ⟨u, hu, huk⟩
theorem IsD.noN {ws : List Wd} {p d : Nat} (h : IsD ws p d) : ¬ KdAt ws p 0 := by
  rintro ⟨z, hz, hzk⟩
  obtain ⟨u, hu, huk, _⟩ := h
  rw [hu] at hz
  cases hz
  omega
theorem but_drew {b : Nat} {w w' : World} (h : Bux b w w') : Bux b w w'.drew := ⟨h.os, h.tape, h.output, h.size, h.block⟩
theorem Rb.other {w : World} {B X : Nat} {vs : Array Value} {t : TypeId} (h : Rb w B vs t) (hne : B ≠ X) (i : Nat) (v : Value) : Rb (w.setCell ⟨X, i, none⟩ v) B vs t := (Below.heap_setCell _ _ _ B hne).trans h
/-- words whose texts and numbers fit -/
def WdOk (ws : List Wd) : Prop := ∀ y ∈ ws, Sz y.text.size ∧ y.num ≤ 9223372036854775807
theorem WdOk.name {ws : List Wd} (h : WdOk ws) {p : Nat} {x : ByteArray} (hx : IsN ws p x) : Sz x.size := by
  obtain ⟨y, hy, _, rfl⟩ := hx
  exact (h y (List.mem_of_getElem? hy)).1
theorem WdOk.num {ws : List Wd} (h : WdOk ws) {p d : Nat} (hx : IsD ws p d) : d ≤ 9223372036854775807 := by
  obtain ⟨y, hy, _, rfl⟩ := hx
  exact (h y (List.mem_of_getElem? hy)).2
theorem RdTnL.keep {P : Nat → Prop} {W W' : World} (hb : Hi P W W') (ao : Option Addr) : ∀ (l : List Tm) j, RdTnL P W l ao j → RdTnL P W' l ao j := by
  intro l
  induction l with
  | nil => intro j _; rw [RdTnL]; trivial
  | cons t r ihr =>
    intro j h
    rw [RdTnL] at h ⊢
    obtain ⟨⟨g, of, d0, d1, d2, d3, e, hbg, hg, k0, k1, k2, k3, hr⟩, hrest⟩ := h
    have hc : ∀ i, W'.cell? ⟨g, i, none⟩ = W.cell? ⟨g, i, none⟩ := fun i => World.cell?_of_block (w := W) (hb.block g hbg hg)
    exact ⟨⟨g, of, d0, d1, d2, d3, e, hbg, Nat.lt_of_lt_of_le hg hb.size, (hc _).trans k0, (hc _).trans k1, (hc _).trans k2, (hc _).trans k3, RdTn.keep hb _ _ _ _ _ hr⟩, ihr _ hrest⟩
theorem RdTnL.low {P P' : Nat → Prop} {W : World} (hb : ∀ k, k < W.heap.size → P k → P' k) (ao : Option Addr) : ∀ (l : List Tm) j, RdTnL P W l ao j → RdTnL P' W l ao j := by
  intro l
  induction l with
  | nil => intro j _; rw [RdTnL]; trivial
  | cons t r ihr =>
    intro j h
    rw [RdTnL] at h ⊢
    obtain ⟨⟨g, of, d0, d1, d2, d3, e, hbg, hg, k0, k1, k2, k3, hr⟩, hrest⟩ := h
    exact ⟨⟨g, of, d0, d1, d2, d3, e, hb g hg hbg, hg, k0, k1, k2, k3, RdTn.low hb _ _ _ _ _ hr⟩, ihr _ hrest⟩
theorem RdTnL.plain {P : Nat → Prop} {W : World} (ao : Option Addr) : ∀ (l : List Tm) j, RdTnL P W l ao j → RdTL W l ao j := by
  intro l
  induction l with
  | nil => intro j _; rw [RdTL]; trivial
  | cons t r ihr =>
    intro j h
    rw [RdTnL] at h
    rw [RdTL]
    obtain ⟨⟨g, of, d0, d1, d2, d3, e, hbg, hg, k0, k1, k2, k3, hr⟩, hrest⟩ := h
    exact ⟨⟨g, of, d0, d1, d2, d3, e, hg, k0, k1, k2, k3, RdTn.plain _ _ _ _ _ hr⟩, ihr _ hrest⟩
mutual
def RdFn (P : Nat → Prop) (W : World) : Fm → Value → Value → Value → Value → Value → Prop
  | .mk o x m t a, c0, c1, c2, c3, c4 => c0 = .int .i64 o ∧ c1 = .string x ∧ c2 = .int .i64 m ∧ (I64 o ∧ I64 m ∧ Sz x.size) ∧ (∃ ao cap, c3 = .slice ao t.length cap ∧ t.length ≤ cap ∧ Sz cap ∧ RdTnL P W t ao 0) ∧ ∃ ao cap, c4 = .slice ao a.length cap ∧ a.length ≤ cap ∧ Sz cap ∧ RdFnL P W a ao 0
def RdFnL (P : Nat → Prop) (W : World) : List Fm → Option Addr → Nat → Prop
  | [], _, _ => True
  | t :: r, ao, i => (∃ g of c0 c1 c2 c3 c4, ao = some ⟨g, of, none⟩ ∧ P g ∧ g < W.heap.size ∧ W.cell? ⟨g, of + i * 5, none⟩ = some c0 ∧ W.cell? ⟨g, of + i * 5 + 1, none⟩ = some c1 ∧ W.cell? ⟨g, of + i * 5 + 2, none⟩ = some c2 ∧ W.cell? ⟨g, of + i * 5 + 3, none⟩ = some c3 ∧ W.cell? ⟨g, of + i * 5 + 4, none⟩ = some c4 ∧ RdFn P W t c0 c1 c2 c3 c4) ∧ RdFnL P W r ao (i + 1)
end
theorem RdFn.keep {P : Nat → Prop} {W W' : World} (hb : Hi P W W') : ∀ f c0 c1 c2 c3 c4, RdFn P W f c0 c1 c2 c3 c4 → RdFn P W' f c0 c1 c2 c3 c4 := by
  refine Fm.ind (fun o x m t a ih c0 c1 c2 c3 c4 h => ?_)
  rw [RdFn] at h ⊢
  obtain ⟨h0, h1, h2, h3, ⟨bo, bap, b4, b5, b6, b7⟩, ao, cap, h4, h5, h6, h7⟩ := h
  refine ⟨h0, h1, h2, h3, ⟨bo, bap, b4, b5, b6, b7.keep hb⟩, ao, cap, h4, h5, h6, ?_⟩
  have key : ∀ l : List Fm, (∀ t ∈ l, t ∈ a) → ∀ j, RdFnL P W l ao j → RdFnL P W' l ao j := by
    intro l
    induction l with
    | nil => intro _ j _; rw [RdFnL]; trivial
    | cons t r ihr =>
      intro hm j h
      rw [RdFnL] at h ⊢
      obtain ⟨⟨g, of, d0, d1, d2, d3, d4, e, hbg, hg, k0, k1, k2, k3, k4, hr⟩, hrest⟩ := h
      have hc : ∀ i, W'.cell? ⟨g, i, none⟩ = W.cell? ⟨g, i, none⟩ := fun i => World.cell?_of_block (w := W) (hb.block g hbg hg)
      exact ⟨⟨g, of, d0, d1, d2, d3, d4, e, hbg, Nat.lt_of_lt_of_le hg hb.size, (hc _).trans k0, (hc _).trans k1, (hc _).trans k2, (hc _).trans k3, (hc _).trans k4, ih t (hm t (List.mem_cons_self ..)) _ _ _ _ _ hr⟩, ihr (fun u hu => hm u (List.mem_cons_of_mem _ hu)) _ hrest⟩
  exact key a (fun _ h => h) 0 h7
theorem RdFn.low {P P' : Nat → Prop} {W : World} (hb : ∀ k, k < W.heap.size → P k → P' k) : ∀ f c0 c1 c2 c3 c4, RdFn P W f c0 c1 c2 c3 c4 → RdFn P' W f c0 c1 c2 c3 c4 := by
  refine Fm.ind (fun o x m t a ih c0 c1 c2 c3 c4 h => ?_)
  rw [RdFn] at h ⊢
  obtain ⟨h0, h1, h2, h3, ⟨bo, bap, b4, b5, b6, b7⟩, ao, cap, h4, h5, h6, h7⟩ := h
  refine ⟨h0, h1, h2, h3, ⟨bo, bap, b4, b5, b6, b7.low hb⟩, ao, cap, h4, h5, h6, ?_⟩
  have key : ∀ l : List Fm, (∀ t ∈ l, t ∈ a) → ∀ j, RdFnL P W l ao j → RdFnL P' W l ao j := by
    intro l
    induction l with
    | nil => intro _ j _; rw [RdFnL]; trivial
    | cons t r ihr =>
      intro hm j h
      rw [RdFnL] at h ⊢
      obtain ⟨⟨g, of, d0, d1, d2, d3, d4, e, hbg, hg, k0, k1, k2, k3, k4, hr⟩, hrest⟩ := h
      exact ⟨⟨g, of, d0, d1, d2, d3, d4, e, hb g hg hbg, hg, k0, k1, k2, k3, k4, ih t (hm t (List.mem_cons_self ..)) _ _ _ _ _ hr⟩, ihr (fun u hu => hm u (List.mem_cons_of_mem _ hu)) _ hrest⟩
  exact key a (fun _ h => h) 0 h7
theorem RdFn.plain {P : Nat → Prop} {W : World} : ∀ f c0 c1 c2 c3 c4, RdFn P W f c0 c1 c2 c3 c4 → RdF W f c0 c1 c2 c3 c4 := by
  refine Fm.ind (fun o x m t a ih c0 c1 c2 c3 c4 h => ?_)
  rw [RdFn] at h
  rw [RdF]
  obtain ⟨h0, h1, h2, h3, ⟨bo, bap, b4, b5, b6, b7⟩, ao, cap, h4, h5, h6, h7⟩ := h
  refine ⟨h0, h1, h2, h3, ⟨bo, bap, b4, b5, b6, b7.plain⟩, ao, cap, h4, h5, h6, ?_⟩
  have key : ∀ l : List Fm, (∀ t ∈ l, t ∈ a) → ∀ j, RdFnL P W l ao j → RdFL W l ao j := by
    intro l
    induction l with
    | nil => intro _ j _; rw [RdFL]; trivial
    | cons t r ihr =>
      intro hm j h
      rw [RdFnL] at h
      rw [RdFL]
      obtain ⟨⟨g, of, d0, d1, d2, d3, d4, e, hbg, hg, k0, k1, k2, k3, k4, hr⟩, hrest⟩ := h
      exact ⟨⟨g, of, d0, d1, d2, d3, d4, e, hg, k0, k1, k2, k3, k4, ih t (hm t (List.mem_cons_self ..)) _ _ _ _ _ hr⟩, ihr (fun u hu => hm u (List.mem_cons_of_mem _ hu)) _ hrest⟩
  exact key a (fun _ h => h) 0 h7
/-- a formula's value, written out, its lists in memory that P tells -/
def FmN (P : Nat → Prop) (W : World) (f : Fm) (v : Value) : Prop := ∃ o x m bo n1 c1 ao n2 c2, v = .agg #[.int .i64 o, .string x, .int .i64 m, .slice bo n1 c1, .slice ao n2 c2] ∧ RdFn P W f (.int .i64 o) (.string x) (.int .i64 m) (.slice bo n1 c1) (.slice ao n2 c2)
theorem FmN.keep {P : Nat → Prop} {W W' : World} {f : Fm} {v : Value} (h : FmN P W f v) (hb : Hi P W W') : FmN P W' f v := by
  obtain ⟨o, x, m, bo, n1, c1, ao, n2, c2, e, hr⟩ := h
  exact ⟨o, x, m, bo, n1, c1, ao, n2, c2, e, hr.keep hb⟩
theorem FmN.low {P P' : Nat → Prop} {W : World} {f : Fm} {v : Value} (h : FmN P W f v) (hb : ∀ k, k < W.heap.size → P k → P' k) : FmN P' W f v := by
  obtain ⟨o, x, m, bo, n1, c1, ao, n2, c2, e, hr⟩ := h
  exact ⟨o, x, m, bo, n1, c1, ao, n2, c2, e, hr.low hb⟩
theorem FmN.plain {P : Nat → Prop} {W : World} {f : Fm} {v : Value} (h : FmN P W f v) : FmV W f v := by
  obtain ⟨o, x, m, bo, n1, c1, ao, n2, c2, e, hr⟩ := h
  exact ⟨_, _, _, _, _, e, hr.plain⟩
abbrev zF : Array Value := #[.int .i64 0, .string emp, .int .i64 0, .slice none 0 0, .slice none 0 0]
theorem rb_five {w : World} {B : Nat} {vs : Array Value} {t : TypeId} (h : Rb w B vs t) (hs : vs.size = 5) (v0 v1 v2 v3 v4 : Value) : Rb (((((w.setCell ⟨B, 0, none⟩ v0).setCell ⟨B, 1, none⟩ v1).setCell ⟨B, 2, none⟩ v2).setCell ⟨B, 3, none⟩ v3).setCell ⟨B, 4, none⟩ v4) B #[v0, v1, v2, v3, v4] t := by
  have h1 := tx_set (tx_set (tx_set (tx_set (tx_set h 0 v0) 1 v1) 2 v2) 3 v3) 4 v4
  have e : ((((vs.setIfInBounds 0 v0).setIfInBounds 1 v1).setIfInBounds 2 v2).setIfInBounds 3 v3).setIfInBounds 4 v4 = #[v0, v1, v2, v3, v4] := by
    apply Array.ext
    · simp [hs]
    · intro i hi1 hi2
      simp only [Array.size_setIfInBounds, hs] at hi1
      rcases (show i = 0 ∨ i = 1 ∨ i = 2 ∨ i = 3 ∨ i = 4 by omega) with rfl | rfl | rfl | rfl | rfl <;> simp [hs]
  rw [e] at h1
  exact h1
theorem leafF {P : Nat → Prop} {W : World} (o m : Int) (nm : ByteArray) (hi : I64 o ∧ I64 m ∧ Sz nm.size) : RdFn P W (.mk o nm m [] []) (.int .i64 o) (.string nm) (.int .i64 m) (.slice none 0 0) (.slice none 0 0) := by
  rw [RdFn]
  exact ⟨rfl, rfl, rfl, hi, ⟨none, 0, rfl, Nat.le_refl _, by decide, by rw [RdTnL]; trivial⟩, none, 0, rfl, Nat.le_refl _, by decide, by rw [RdFnL]; trivial⟩
theorem rels_apart : ∀ i, i < 7 → ∀ j, j < 7 → rels.getD i emp = rels.getD j emp → i = j := by decide +kernel
theorem rels_mem {x : ByteArray} (h : x ∈ rels) : ∃ i, i < 7 ∧ rels.getD i emp = x := by
  simp only [rels, List.mem_cons, List.not_mem_nil, or_false] at h
  rcases h with rfl | rfl | rfl | rfl | rfl | rfl | rfl
  · exact ⟨0, by decide, rfl⟩
  · exact ⟨1, by decide, rfl⟩
  · exact ⟨2, by decide, rfl⟩
  · exact ⟨3, by decide, rfl⟩
  · exact ⟨4, by decide, rfl⟩
  · exact ⟨5, by decide, rfl⟩
  · exact ⟨6, by decide, rfl⟩
theorem mkF1 {P : Nat → Prop} {g : Nat} {W : World} {f : Fm} {c0 c1 c2 c3 c4 : Value} {t : TypeId} (h : RdFn P W f c0 c1 c2 c3 c4) (hg : W.heap.size = g) (hb : P g) (o m : Int) (nm : ByteArray) (hi : I64 o ∧ I64 m ∧ Sz nm.size) : RdFn P (W.alloc (.cells #[c0, c1, c2, c3, c4] t)) (.mk o nm m [] [f]) (.int .i64 o) (.string nm) (.int .i64 m) (.slice none 0 0) (.slice (some ⟨g, 0, none⟩) 1 1) := by
  have hR : Rb (W.alloc (.cells #[c0, c1, c2, c3, c4] t)) g #[c0, c1, c2, c3, c4] t := by rw [← hg]; exact rb_new W _ _
  have hk := h.keep (Hi.of (bal W (.cells #[c0, c1, c2, c3, c4] t)))
  rw [RdFn]
  refine ⟨rfl, rfl, rfl, hi, ⟨none, 0, rfl, Nat.le_refl _, by decide, by rw [RdTnL]; trivial⟩, some ⟨g, 0, none⟩, 1, rfl, Nat.le_refl _, by decide, ?_⟩
  rw [RdFnL, RdFnL]
  exact ⟨⟨g, 0, c0, c1, c2, c3, c4, rfl, hb, (Array.getElem?_eq_some_iff.1 hR).1, (txcell hR 0 _ rfl).1, (txcell hR 1 _ rfl).1, (txcell hR 2 _ rfl).1, (txcell hR 3 _ rfl).1, (txcell hR 4 _ rfl).1, hk⟩, trivial⟩
theorem mkA2 {P : Nat → Prop} {g : Nat} {W : World} {x y : Tm} {c0 c1 c2 c3 d0 d1 d2 d3 : Value} {t : TypeId} (h : RdTn P W x c0 c1 c2 c3) (k : RdTn P W y d0 d1 d2 d3) (hR : Rb W g #[c0, c1, c2, c3, d0, d1, d2, d3] t) (hb : P g) (o m : Int) (nm : ByteArray) (hi : I64 o ∧ I64 m ∧ Sz nm.size) : RdFn P W (.mk o nm m [x, y] []) (.int .i64 o) (.string nm) (.int .i64 m) (.slice (some ⟨g, 0, none⟩) 2 2) (.slice none 0 0) := by
  rw [RdFn]
  refine ⟨rfl, rfl, rfl, hi, ⟨some ⟨g, 0, none⟩, 2, rfl, Nat.le_refl _, by decide, ?_⟩, none, 0, rfl, Nat.le_refl _, by decide, by rw [RdFnL]; trivial⟩
  rw [RdTnL, RdTnL, RdTnL]
  exact ⟨⟨g, 0, c0, c1, c2, c3, rfl, hb, (Array.getElem?_eq_some_iff.1 hR).1, (txcell hR 0 _ rfl).1, (txcell hR 1 _ rfl).1, (txcell hR 2 _ rfl).1, (txcell hR 3 _ rfl).1, h⟩, ⟨g, 0, d0, d1, d2, d3, rfl, hb, (Array.getElem?_eq_some_iff.1 hR).1, (txcell hR 4 _ rfl).1, (txcell hR 5 _ rfl).1, (txcell hR 6 _ rfl).1, (txcell hR 7 _ rfl).1, k⟩, trivial⟩
end Go.Proofs.YtabfhdmcljdjhaaDoor.Gl
