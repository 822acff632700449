/- Trees of formulas and terms, and what there is to measure: plain mathematics. -/
import Derived.RowKit
import Derived.Test.YtiapkblebbcfbaaGreatGlH
import Derived.Test.YtiapkblebbcfbaaGreatGlI
import Derived.Test.YtiapkblebbcfbaaGreatGlN
namespace Go.Proofs.YtiapkblebbcfbaaGreat.Gl
set_option linter.unusedVariables false

inductive Tm where
  | mk (op num : Int) (name : ByteArray) (args : List Tm)
inductive Fm where
  | mk (op : Int) (name : ByteArray) (mod : Int) (terms : List Tm) (args : List Fm)
def Tm.op : Tm → Int | .mk o _ _ _ => o
def Tm.num : Tm → Int | .mk _ n _ _ => n
def Tm.name : Tm → ByteArray | .mk _ _ n _ => n
def Tm.args : Tm → List Tm | .mk _ _ _ a => a
def Fm.op : Fm → Int | .mk o _ _ _ _ => o
def Fm.name : Fm → ByteArray | .mk _ n _ _ _ => n
def Fm.mod : Fm → Int | .mk _ _ m _ _ => m
def Fm.terms : Fm → List Tm | .mk _ _ _ t _ => t
def Fm.args : Fm → List Fm | .mk _ _ _ _ a => a
/- how many nodes -/
mutual
def Tm.size : Tm → Nat | .mk _ _ _ a => Tm.sizeL a + 1
def Tm.sizeL : List Tm → Nat | [] => 0 | t :: r => Tm.size t + Tm.sizeL r
end
mutual
def Fm.size : Fm → Nat | .mk _ _ _ t a => Tm.sizeL t + Fm.sizeL a + 1
def Fm.sizeL : List Fm → Nat | [] => 0 | f :: r => Fm.size f + Fm.sizeL r
end
/- how deep -/
mutual
def Tm.deep : Tm → Nat | .mk _ _ _ a => Tm.deepL a + 1
def Tm.deepL : List Tm → Nat | [] => 0 | t :: r => max (Tm.deep t) (Tm.deepL r)
end
mutual
def Fm.deep : Fm → Nat | .mk _ _ _ t a => max (Tm.deepL t) (Fm.deepL a) + 1
def Fm.deepL : List Fm → Nat | [] => 0 | f :: r => max (Fm.deep f) (Fm.deepL r)
end
theorem Tm.size_mem {t : Tm} {l : List Tm} (h : t ∈ l) : t.size ≤ Tm.sizeL l := by
  induction l with
  | nil => cases h
  | cons x r ih =>
    rw [Tm.sizeL]
    rcases List.mem_cons.1 h with rfl | h
    · omega
    · have := ih h; omega
theorem Fm.size_mem {f : Fm} {l : List Fm} (h : f ∈ l) : f.size ≤ Fm.sizeL l := by
  induction l with
  | nil => cases h
  | cons x r ih =>
    rw [Fm.sizeL]
    rcases List.mem_cons.1 h with rfl | h
    · omega
    · have := ih h; omega
theorem Tm.ind {P : Tm → Prop} (h : ∀ o n x a, (∀ t ∈ a, P t) → P (.mk o n x a)) : ∀ t, P t := by
  have key : ∀ k t, Tm.size t ≤ k → P t := by
    intro k
    induction k with
    | zero => intro t ht; cases t with | mk o n x a => rw [Tm.size] at ht; omega
    | succ k ih =>
      intro t ht
      cases t with
      | mk o n x a =>
        rw [Tm.size] at ht
        exact h o n x a (fun t hm => ih t (by have := Tm.size_mem hm; omega))
  exact fun t => key _ t (Nat.le_refl _)
theorem Fm.ind {P : Fm → Prop} (h : ∀ o x m t a, (∀ f ∈ a, P f) → P (.mk o x m t a)) : ∀ f, P f := by
  have key : ∀ k f, Fm.size f ≤ k → P f := by
    intro k
    induction k with
    | zero => intro f hf; cases f with | mk o x m t a => rw [Fm.size] at hf; omega
    | succ k ih =>
      intro f hf
      cases f with
      | mk o x m t a =>
        rw [Fm.size] at hf
        exact h o x m t a (fun f hm => ih f (by have := Fm.size_mem hm; omega))
  exact fun f => key _ f (Nat.le_refl _)
/- the meter: nodes met, the deepest, the error -/
structure St where
  n : Nat
  d : Nat
  e : Nat
def St.node (dp : Nat) (good : Bool) (s : St) : St := ⟨s.n + 1, max s.d dp, if 500 < s.n + 1 then 73 else if 40 < dp then 72 else if good = true then s.e else 3⟩
/- is a node well made? 'nm' tells the names -/
def wT (nm : ByteArray → Bool) (o n : Int) (x : ByteArray) (len : Nat) : Bool :=
  if o = 0 then decide (0 ≤ n) && (x.toList == []) && decide (len = 0)
  else if o = 1 then decide (n = 0) && nm x && decide (len = 0)
  else if o = 2 then decide (n = 0) && (x.toList == []) && decide (len = 1)
  else if o = 3 ∨ o = 4 ∨ o = 5 then decide (n = 0) && (x.toList == []) && decide (len = 2)
  else false
def wellT (nm : ByteArray → Bool) : Tm → Bool
  | .mk o n x a => wT nm o n x a.length
def quant (o : Int) : Bool := decide (o = 7 ∨ o = 8)
def wF (nm : ByteArray → Bool) (o : Int) (x : ByteArray) (m : Int) (terms args : Nat) : Bool :=
  if o = 7 ∨ o = 8 then nm x && decide (m = 0) && decide (terms = 0) && decide (args = 1)
  else if o = 15 then (x.toList == []) && decide (1 ≤ m) && decide (terms = 2) && decide (args = 0)
  else if 0 ≤ o ∧ o ≤ 14 then (x.toList == []) && decide (m = 0) && decide (terms = if 9 ≤ o then 2 else 0) && decide (args = if o = 2 then 1 else if 3 ≤ o ∧ o ≤ 6 then 2 else 0)
  else false
def wellF (nm : ByteArray → Bool) : Fm → Bool
  | .mk o x m t a => wF nm o x m t.length a.length
mutual
def meterT (nm : ByteArray → Bool) : Tm → Nat → St → St
  | .mk o n x a, dp, s => meterTL nm a (dp + 1) (s.node dp (wellT nm (.mk o n x a)))
def meterTL (nm : ByteArray → Bool) : List Tm → Nat → St → St
  | [], _, s => s
  | t :: r, dp, s => if s.e = 0 then meterTL nm r dp (meterT nm t dp s) else s
end
mutual
def meterF (nm : ByteArray → Bool) : Fm → Nat → St → St
  | .mk o x m t a, dp, s => meterFL nm a (dp + 1) (meterTL nm t (dp + 1) (s.node dp (wellF nm (.mk o x m t a))))
def meterFL (nm : ByteArray → Bool) : List Fm → Nat → St → St
  | [], _, s => s
  | f :: r, dp, s => if s.e = 0 then meterFL nm r dp (meterF nm f dp s) else s
end
def chk (nm : ByteArray → Bool) (f : Fm) : Nat := (meterF nm f 1 ⟨0, 0, 0⟩).e
/- all nodes well made -/
mutual
def Tm.all (P : Tm → Bool) : Tm → Bool | .mk o n x a => P (.mk o n x a) && Tm.allL P a
def Tm.allL (P : Tm → Bool) : List Tm → Bool | [] => true | t :: r => Tm.all P t && Tm.allL P r
end
mutual
def Fm.all (P : Tm → Bool) (Q : Fm → Bool) : Fm → Bool | .mk o x m t a => Q (.mk o x m t a) && Tm.allL P t && Fm.allL P Q a
def Fm.allL (P : Tm → Bool) (Q : Fm → Bool) : List Fm → Bool | [] => true | f :: r => Fm.all P Q f && Fm.allL P Q r
end
theorem meterTL_err (nm : ByteArray → Bool) (l : List Tm) (dp : Nat) (s : St) (h : s.e ≠ 0) : meterTL nm l dp s = s := by
  cases l with
  | nil => rw [meterTL]
  | cons t r => rw [meterTL, if_neg h]
theorem meterFL_err (nm : ByteArray → Bool) (l : List Fm) (dp : Nat) (s : St) (h : s.e ≠ 0) : meterFL nm l dp s = s := by
  cases l with
  | nil => rw [meterFL]
  | cons t r => rw [meterFL, if_neg h]
/-- what the meter says of k nodes, the deepest at dd, all well made or not -/
def Fine (k dd : Nat) (good : Bool) (s s' : St) : Prop :=
  (s.e = 0 → s.n + k ≤ 500 → dd ≤ 40 → good = true → s' = ⟨s.n + k, max s.d dd, 0⟩) ∧ (s.e = 0 → s'.e = 0 → s.n ≤ 500 → s.n + k ≤ 500 ∧ dd ≤ 40 ∧ good = true)
theorem Fine.refl (s : St) : Fine 0 0 true s s :=
  ⟨fun h0 _ _ _ => by cases s; simp_all, fun _ _ h => ⟨by omega, by omega, rfl⟩⟩
theorem Fine.comp {k1 d1 k2 d2 : Nat} {g1 g2 : Bool} {s s1 s2 : St} (h1 : Fine k1 d1 g1 s s1) (h2 : Fine k2 d2 g2 s1 s2) (he : s1.e ≠ 0 → s2.e ≠ 0) : Fine (k1 + k2) (max d1 d2) (g1 && g2) s s2 := by
  refine ⟨fun a0 a1 a2 a3 => ?_, fun a0 a1 a2 => ?_⟩
  · rw [Bool.and_eq_true] at a3
    have e1 := h1.1 a0 (by omega) (by omega) a3.1
    have e2 := h2.1 (by rw [e1]) (by rw [e1]; show s.n + k1 + k2 ≤ 500; omega) (by omega) a3.2
    rw [e2, e1]
    congr 1
    · show s.n + k1 + k2 = _; omega
    · show max (max s.d d1) d2 = _; omega
  · have e0 : s1.e = 0 := Decidable.byContradiction (fun hc => he hc a1)
    obtain ⟨b1, b2, b3⟩ := h1.2 a0 e0 a2
    have e1 := h1.1 a0 b1 b2 b3
    obtain ⟨c1, c2, c3⟩ := h2.2 e0 a1 (by rw [e1]; exact b1)
    rw [e1] at c1
    have c1' : s.n + k1 + k2 ≤ 500 := c1
    exact ⟨by omega, by omega, by rw [b3, c3]; rfl⟩
theorem node_fine (dp : Nat) (good : Bool) (s : St) : Fine 1 dp good s (s.node dp good) := by
  unfold Fine St.node
  refine ⟨fun h0 h1 h2 h3 => ?_, fun h0 h1 h2 => ?_⟩
  · rw [if_neg (by omega), if_neg (by omega), if_pos h3, h0]
  · dsimp only at h1
    split at h1
    · cases h1
    · split at h1
      · cases h1
      · split at h1
        · rename_i a b c
          exact ⟨by omega, by omega, c⟩
        · cases h1
theorem node_bad {dp : Nat} {good : Bool} {s : St} (h : s.e ≠ 0) : (s.node dp good).e ≠ 0 := by
  unfold St.node
  dsimp only
  split
  · decide
  · split
    · decide
    · split
      · exact h
      · decide
/-- the depth of a list of parts whose first lies at dp -/
def under (dp m : Nat) : Nat := if m = 0 then 0 else dp - 1 + m
theorem Tm.deep_pos (t : Tm) : 1 ≤ t.deep := by cases t; rw [Tm.deep]; omega
theorem Fm.deep_pos (t : Fm) : 1 ≤ t.deep := by cases t; rw [Fm.deep]; omega
theorem meterT_bad (nm : ByteArray → Bool) (t : Tm) (dp : Nat) (s : St) (h : s.e ≠ 0) : (meterT nm t dp s).e ≠ 0 := by
  cases t with
  | mk o n x a => rw [meterT, meterTL_err _ _ _ _ (node_bad h)]; exact node_bad h
theorem meterTL_bad (nm : ByteArray → Bool) (l : List Tm) (dp : Nat) (s : St) (h : s.e ≠ 0) : (meterTL nm l dp s).e ≠ 0 := by
  rw [meterTL_err _ _ _ _ h]; exact h
theorem meterFL_bad (nm : ByteArray → Bool) (l : List Fm) (dp : Nat) (s : St) (h : s.e ≠ 0) : (meterFL nm l dp s).e ≠ 0 := by
  rw [meterFL_err _ _ _ _ h]; exact h
theorem Fine.vac {k dd : Nat} {g : Bool} {s s' : St} (h : s.e ≠ 0) : Fine k dd g s s' := ⟨fun h0 => absurd h0 h, fun h0 => absurd h0 h⟩
theorem meterTL_fine {nm : ByteArray → Bool} {l : List Tm} (hl : ∀ t ∈ l, ∀ dp s, 1 ≤ dp → Fine t.size (dp - 1 + t.deep) (t.all (wellT nm)) s (meterT nm t dp s)) (dp : Nat) (hdp : 1 ≤ dp) :
    ∀ s, Fine (Tm.sizeL l) (under dp (Tm.deepL l)) (Tm.allL (wellT nm) l) s (meterTL nm l dp s) := by
  induction l with
  | nil => intro s; rw [Tm.sizeL, Tm.deepL, Tm.allL, meterTL]; exact Fine.refl s
  | cons t r ih =>
    intro s
    by_cases h0 : s.e = 0
    · rw [Tm.sizeL, Tm.allL, meterTL, Tm.deepL, if_pos h0]
      have := (hl t (List.mem_cons_self ..) dp s hdp).comp (ih (fun u hu => hl u (List.mem_cons_of_mem _ hu)) (meterT nm t dp s)) (meterTL_bad nm r dp _)
      have hp := t.deep_pos
      have e : under dp (max t.deep (Tm.deepL r)) = max (dp - 1 + t.deep) (under dp (Tm.deepL r)) := by
        unfold under
        rw [if_neg (by omega)]
        split <;> omega
      rw [e]
      exact this
    · exact Fine.vac h0
theorem meterT_fine (nm : ByteArray → Bool) : ∀ t dp s, 1 ≤ dp → Fine (Tm.size t) (dp - 1 + Tm.deep t) (Tm.all (wellT nm) t) s (meterT nm t dp s) := by
  refine Tm.ind (fun o n x a ih dp s hdp => ?_)
  rw [Tm.size, Tm.deep, Tm.all, meterT]
  have := (node_fine dp (wellT nm (.mk o n x a)) s).comp (meterTL_fine (nm := nm) ih (dp + 1) (by omega) (s.node dp (wellT nm (.mk o n x a)))) (meterTL_bad nm a (dp + 1) _)
  rw [Nat.add_comm 1] at this
  have e : dp - 1 + (Tm.deepL a + 1) = max dp (under (dp + 1) (Tm.deepL a)) := by
    unfold under
    split <;> omega
  rw [e]
  exact this
theorem meterFL_fine {nm : ByteArray → Bool} {l : List Fm} (hl : ∀ t ∈ l, ∀ dp s, 1 ≤ dp → Fine t.size (dp - 1 + t.deep) (t.all (wellT nm) (wellF nm)) s (meterF nm t dp s)) (dp : Nat) (hdp : 1 ≤ dp) :
    ∀ s, Fine (Fm.sizeL l) (under dp (Fm.deepL l)) (Fm.allL (wellT nm) (wellF nm) l) s (meterFL nm l dp s) := by
  induction l with
  | nil => intro s; rw [Fm.sizeL, Fm.deepL, Fm.allL, meterFL]; exact Fine.refl s
  | cons t r ih =>
    intro s
    by_cases h0 : s.e = 0
    · rw [Fm.sizeL, Fm.allL, meterFL, Fm.deepL, if_pos h0]
      have := (hl t (List.mem_cons_self ..) dp s hdp).comp (ih (fun u hu => hl u (List.mem_cons_of_mem _ hu)) (meterF nm t dp s)) (meterFL_bad nm r dp _)
      have hp := t.deep_pos
      have e : under dp (max t.deep (Fm.deepL r)) = max (dp - 1 + t.deep) (under dp (Fm.deepL r)) := by
        unfold under
        rw [if_neg (by omega)]
        split <;> omega
      rw [e]
      exact this
    · exact Fine.vac h0
theorem meterF_fine (nm : ByteArray → Bool) : ∀ f dp s, 1 ≤ dp → Fine (Fm.size f) (dp - 1 + Fm.deep f) (Fm.all (wellT nm) (wellF nm) f) s (meterF nm f dp s) := by
  refine Fm.ind (fun o x m t a ih dp s hdp => ?_)
  rw [Fm.size, Fm.deep, Fm.all, meterF]
  have h1 := (node_fine dp (wellF nm (.mk o x m t a)) s).comp (meterTL_fine (nm := nm) (l := t) (fun u _ dp s h => meterT_fine nm u dp s h) (dp + 1) (by omega) (s.node dp (wellF nm (.mk o x m t a)))) (meterTL_bad nm t (dp + 1) _)
  have := h1.comp (meterFL_fine (nm := nm) ih (dp + 1) (by omega) _) (meterFL_bad nm a (dp + 1) _)
  have e1 : Tm.sizeL t + Fm.sizeL a + 1 = 1 + Tm.sizeL t + Fm.sizeL a := by omega
  have e : dp - 1 + (max (Tm.deepL t) (Fm.deepL a) + 1) = max (max dp (under (dp + 1) (Tm.deepL t))) (under (dp + 1) (Fm.deepL a)) := by
    unfold under
    split <;> split <;> omega
  rw [e, e1]
  exact this
def right (nm : ByteArray → Bool) (f : Fm) : Prop := f.size ≤ 500 ∧ f.deep ≤ 40 ∧ f.all (wellT nm) (wellF nm) = true
/-- no fault just if right; then the measures -/
theorem chk_iff (nm : ByteArray → Bool) (f : Fm) : chk nm f = 0 ↔ right nm f := by
  have h := meterF_fine nm f 1 ⟨0, 0, 0⟩ (by omega)
  constructor
  · intro h0
    obtain ⟨a, b, c⟩ := h.2 rfl h0 (by decide)
    exact ⟨by have : 0 + f.size ≤ 500 := a; omega, by omega, c⟩
  · rintro ⟨a, b, c⟩
    have := h.1 rfl (by show 0 + f.size ≤ 500; omega) (by omega) c
    unfold chk
    rw [this]
theorem meter_right {nm : ByteArray → Bool} {f : Fm} (hr : right nm f) : meterF nm f 1 ⟨0, 0, 0⟩ = ⟨f.size, f.deep, 0⟩ := by
  have h := meterF_fine nm f 1 ⟨0, 0, 0⟩ (by omega)
  have := h.1 rfl (by show 0 + f.size ≤ 500; have := hr.1; omega) (by have := hr.2.1; omega) hr.2.2
  rw [this]
  show St.mk (0 + f.size) (max 0 (1 - 1 + f.deep)) 0 = _
  congr 1
  · omega
  · omega
end Go.Proofs.YtiapkblebbcfbaaGreat.Gl
/- Trees in memory. -/
namespace Go.Proofs.YtiapkblebbcfbaaGreat.Gl
open Go.RowKit
set_option linter.unusedVariables false

noncomputable def nmB (x : ByteArray) : Bool := @decide (IsName x) (Classical.propDecidable _)
theorem nmB_iff (x : ByteArray) : nmB x = true ↔ IsName x := by
  unfold nmB
  exact @decide_eq_true_iff _ (Classical.propDecidable _)
abbrev I64 (z : Int) : Prop := -9223372036854775808 ≤ z ∧ z ≤ 9223372036854775807
abbrev Sz (n : Nat) : Prop := n ≤ 9223372036854775807
/- a term's four cells, a formula's five; a slice of each -/
mutual
def RdT (W : World) : Tm → Value → Value → Value → Value → Prop
  | .mk o n x a, c0, c1, c2, c3 => c0 = .int .i64 o ∧ c1 = .int .i64 n ∧ c2 = .string x ∧ (I64 o ∧ I64 n ∧ Sz x.size) ∧ ∃ ao cap, c3 = .slice ao a.length cap ∧ a.length ≤ cap ∧ Sz cap ∧ RdTL W a ao 0
def RdTL (W : World) : List Tm → Option Addr → Nat → Prop
  | [], _, _ => True
  | t :: r, ao, i => (∃ g of c0 c1 c2 c3, ao = some ⟨g, of, none⟩ ∧ g < W.heap.size ∧ W.cell? ⟨g, of + i * 4, none⟩ = some c0 ∧ W.cell? ⟨g, of + i * 4 + 1, none⟩ = some c1 ∧ W.cell? ⟨g, of + i * 4 + 2, none⟩ = some c2 ∧ W.cell? ⟨g, of + i * 4 + 3, none⟩ = some c3 ∧ RdT W t c0 c1 c2 c3) ∧ RdTL W r ao (i + 1)
end
mutual
def RdF (W : World) : Fm → Value → Value → Value → Value → Value → Prop
  | .mk o x m t a, c0, c1, c2, c3, c4 => c0 = .int .i64 o ∧ c1 = .string x ∧ c2 = .int .i64 m ∧ (I64 o ∧ I64 m ∧ Sz x.size) ∧ (∃ ao cap, c3 = .slice ao t.length cap ∧ t.length ≤ cap ∧ Sz cap ∧ RdTL W t ao 0) ∧ ∃ ao cap, c4 = .slice ao a.length cap ∧ a.length ≤ cap ∧ Sz cap ∧ RdFL W a ao 0
def RdFL (W : World) : List Fm → Option Addr → Nat → Prop
  | [], _, _ => True
  | t :: r, ao, i => (∃ g of c0 c1 c2 c3 c4, ao = some ⟨g, of, none⟩ ∧ g < W.heap.size ∧ W.cell? ⟨g, of + i * 5, none⟩ = some c0 ∧ W.cell? ⟨g, of + i * 5 + 1, none⟩ = some c1 ∧ W.cell? ⟨g, of + i * 5 + 2, none⟩ = some c2 ∧ W.cell? ⟨g, of + i * 5 + 3, none⟩ = some c3 ∧ W.cell? ⟨g, of + i * 5 + 4, none⟩ = some c4 ∧ RdF W t c0 c1 c2 c3 c4) ∧ RdFL W r ao (i + 1)
end
theorem RdTL.get {W : World} {l : List Tm} {ao : Option Addr} {j : Nat} (h : RdTL W l ao j) : ∀ i (hi : i < l.length), ∃ g of c0 c1 c2 c3, ao = some ⟨g, of, none⟩ ∧ g < W.heap.size ∧ W.cell? ⟨g, of + (j + i) * 4, none⟩ = some c0 ∧ W.cell? ⟨g, of + (j + i) * 4 + 1, none⟩ = some c1 ∧ W.cell? ⟨g, of + (j + i) * 4 + 2, none⟩ = some c2 ∧ W.cell? ⟨g, of + (j + i) * 4 + 3, none⟩ = some c3 ∧ RdT W l[i] c0 c1 c2 c3 := by
  induction l generalizing j with
  | nil => intro i hi; simp at hi
  | cons t r ih =>
    intro i hi
    rw [RdTL] at h
    cases i with
    | zero => exact h.1
    | succ i =>
      have := ih h.2 i (by simpa using hi)
      rw [show j + 1 + i = j + (i + 1) by omega] at this
      exact this
theorem RdFL.get {W : World} {l : List Fm} {ao : Option Addr} {j : Nat} (h : RdFL W l ao j) : ∀ i (hi : i < l.length), ∃ g of c0 c1 c2 c3 c4, ao = some ⟨g, of, none⟩ ∧ g < W.heap.size ∧ W.cell? ⟨g, of + (j + i) * 5, none⟩ = some c0 ∧ W.cell? ⟨g, of + (j + i) * 5 + 1, none⟩ = some c1 ∧ W.cell? ⟨g, of + (j + i) * 5 + 2, none⟩ = some c2 ∧ W.cell? ⟨g, of + (j + i) * 5 + 3, none⟩ = some c3 ∧ W.cell? ⟨g, of + (j + i) * 5 + 4, none⟩ = some c4 ∧ RdF W l[i] c0 c1 c2 c3 c4 := by
  induction l generalizing j with
  | nil => intro i hi; simp at hi
  | cons t r ih =>
    intro i hi
    rw [RdFL] at h
    cases i with
    | zero => exact h.1
    | succ i =>
      have := ih h.2 i (by simpa using hi)
      rw [show j + 1 + i = j + (i + 1) by omega] at this
      exact this
/-- a term as a value -/
def TmV (W : World) (t : Tm) (v : Value) : Prop := ∃ c0 c1 c2 c3, v = .agg #[c0, c1, c2, c3] ∧ RdT W t c0 c1 c2 c3
def FmV (W : World) (f : Fm) (v : Value) : Prop := ∃ c0 c1 c2 c3 c4, v = .agg #[c0, c1, c2, c3, c4] ∧ RdF W f c0 c1 c2 c3 c4
theorem res_keep {w w4 : World} {vs : Array Value} {t : TypeId} (hb : Below (w.alloc (.cells vs t)).heap.size (w.alloc (.cells vs t)) w4) :
    (∀ ob o, (w4.alloc ob).cell? ⟨w.heap.size, o, none⟩ = vs[o]?) ∧ (∀ ob o, (w4.alloc ob).frozen? ⟨w.heap.size, o, none⟩ = false) ∧ (∀ o, w4.cell? ⟨w.heap.size, o, none⟩ = vs[o]?) ∧ ∀ o, w4.frozen? ⟨w.heap.size, o, none⟩ = false := by
  refine ⟨fun ob o => ?_, fun ob o => ?_, fun o => ?_, fun o => ?_⟩
  · rw [(bcell (bta hb ob)).1 _ _ (by simp)]; simp
  · rw [(bcell (bta hb ob)).2 _ _ (by simp)]; simp
  · rw [(bcell hb).1 _ _ (by simp)]; simp
  · rw [(bcell hb).2 _ _ (by simp)]; simp
theorem ba2 {w : World} {o : Obj} {w2 : World} (h : Below (w.alloc o).heap.size (w.alloc o) w2) : Below w.heap.size w w2 := ((Below.refl _ _).alloc (Nat.le_refl _) o).trans (h.mono (by simp))
/- kept by what keeps memory -/
theorem RdT.kept {W W' : World} (hb : Below W.heap.size W W') : ∀ t c0 c1 c2 c3, RdT W t c0 c1 c2 c3 → RdT W' t c0 c1 c2 c3 := by
  refine Tm.ind (fun o n x a ih c0 c1 c2 c3 h => ?_)
  rw [RdT] at h ⊢
  obtain ⟨h0, h1, h2, h3, ao, cap, h4, h5, h6, h7⟩ := h
  refine ⟨h0, h1, h2, h3, ao, cap, h4, h5, h6, ?_⟩
  have key : ∀ l : List Tm, (∀ t ∈ l, t ∈ a) → ∀ j, RdTL W l ao j → RdTL W' l ao j := by
    intro l
    induction l with
    | nil => intro _ j _; rw [RdTL]; trivial
    | cons t r ihr =>
      intro hm j h
      rw [RdTL] at h ⊢
      obtain ⟨⟨g, of, d0, d1, d2, d3, e, hg, k0, k1, k2, k3, hr⟩, hrest⟩ := h
      refine ⟨⟨g, of, d0, d1, d2, d3, e, Nat.lt_of_lt_of_le hg hb.size, ?_, ?_, ?_, ?_, ih t (hm t (List.mem_cons_self ..)) _ _ _ _ hr⟩, ihr (fun u hu => hm u (List.mem_cons_of_mem _ hu)) _ hrest⟩
      · exact (hb.cell (p := ⟨g, _, none⟩) hg).trans k0
      · exact (hb.cell (p := ⟨g, _, none⟩) hg).trans k1
      · exact (hb.cell (p := ⟨g, _, none⟩) hg).trans k2
      · exact (hb.cell (p := ⟨g, _, none⟩) hg).trans k3
  exact key a (fun _ h => h) 0 h7
theorem RdTL.kept {W W' : World} (hb : Below W.heap.size W W') (ao : Option Addr) : ∀ l j, RdTL W l ao j → RdTL W' l ao j := by
  intro l
  induction l with
  | nil => intro j _; rw [RdTL]; trivial
  | cons t r ihr =>
    intro j h
    rw [RdTL] at h ⊢
    obtain ⟨⟨g, of, d0, d1, d2, d3, e, hg, k0, k1, k2, k3, hr⟩, hrest⟩ := h
    refine ⟨⟨g, of, d0, d1, d2, d3, e, Nat.lt_of_lt_of_le hg hb.size, ?_, ?_, ?_, ?_, hr.kept hb⟩, ihr _ hrest⟩
    · exact (hb.cell (p := ⟨g, _, none⟩) hg).trans k0
    · exact (hb.cell (p := ⟨g, _, none⟩) hg).trans k1
    · exact (hb.cell (p := ⟨g, _, none⟩) hg).trans k2
    · exact (hb.cell (p := ⟨g, _, none⟩) hg).trans k3
theorem RdF.kept {W W' : World} (hb : Below W.heap.size W W') : ∀ f c0 c1 c2 c3 c4, RdF W f c0 c1 c2 c3 c4 → RdF W' f c0 c1 c2 c3 c4 := by
  refine Fm.ind (fun o x m t a ih c0 c1 c2 c3 c4 h => ?_)
  rw [RdF] at h ⊢
  obtain ⟨h0, h1, h2, h3, ⟨bo, bap, b4, b5, b6, b7⟩, ao, cap, h4, h5, h6, h7⟩ := h
  refine ⟨h0, h1, h2, h3, ⟨bo, bap, b4, b5, b6, b7.kept hb⟩, ao, cap, h4, h5, h6, ?_⟩
  have key : ∀ l : List Fm, (∀ t ∈ l, t ∈ a) → ∀ j, RdFL W l ao j → RdFL W' l ao j := by
    intro l
    induction l with
    | nil => intro _ j _; rw [RdFL]; trivial
    | cons t r ihr =>
      intro hm j h
      rw [RdFL] at h ⊢
      obtain ⟨⟨g, of, d0, d1, d2, d3, d4, e, hg, k0, k1, k2, k3, k4, hr⟩, hrest⟩ := h
      refine ⟨⟨g, of, d0, d1, d2, d3, d4, e, Nat.lt_of_lt_of_le hg hb.size, ?_, ?_, ?_, ?_, ?_, ih t (hm t (List.mem_cons_self ..)) _ _ _ _ _ hr⟩, ihr (fun u hu => hm u (List.mem_cons_of_mem _ hu)) _ hrest⟩
      · exact (hb.cell (p := ⟨g, _, none⟩) hg).trans k0
      · exact (hb.cell (p := ⟨g, _, none⟩) hg).trans k1
      · exact (hb.cell (p := ⟨g, _, none⟩) hg).trans k2
      · exact (hb.cell (p := ⟨g, _, none⟩) hg).trans k3
      · exact (hb.cell (p := ⟨g, _, none⟩) hg).trans k4
  exact key a (fun _ h => h) 0 h7
theorem RdF.keep {W W' : World} {f : Fm} {c0 c1 c2 c3 c4 : Value} (h : RdF W f c0 c1 c2 c3 c4) (hb : Below W.heap.size W W') : RdF W' f c0 c1 c2 c3 c4 := RdF.kept hb f _ _ _ _ _ h
end Go.Proofs.YtiapkblebbcfbaaGreat.Gl
