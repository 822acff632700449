/- Words in memory; the law's same. -/
import Derived.Test.YtabfhdmcljdjhaaGreatDoorGlN
import Derived.RowKit
import Derived.Test.YtabfhdmcljdjhaaGreatDoorGlF
namespace Go.Proofs.YtabfhdmcljdjhaaGreatDoor.Gl
open Go.RowKit
set_option linter.unusedVariables false

/-- a word with its place -/
structure FW where
  kind : Nat
  text : ByteArray
  num : Nat
  byte : Nat
  char : Nat
instance : Inhabited FW := ⟨⟨0, emp, 0, 0, 0⟩⟩
def FW.cells (x : FW) : List Value := [.int .i64 x.kind, .string x.text, .int .i64 x.num, .int .i64 x.byte, .int .i64 x.char]
def FW.val (x : FW) : Value := .agg #[.int .i64 x.kind, .string x.text, .int .i64 x.num, .int .i64 x.byte, .int .i64 x.char]
def full (s : ByteArray) (w : Wd) : FW := ⟨w.kind, w.text, w.num, w.byte, cnt (s.extract 0 w.byte)⟩
/-- the slice reads as the words ws -/
structure RdW (w : World) (ao : Option Addr) (len cap : Nat) (ws : List FW) : Prop where
  eqlen : ws.length = len
  lecap : len ≤ cap
  lemax : cap ≤ 9223372036854775807
  isnil : ao = none → cap = 0
  cell : ∀ i, i < len → ∃ b off, ao = some ⟨b, off, none⟩ ∧ b < w.heap.size ∧ w.cell? ⟨b, off + i * 5, none⟩ = some (.int .i64 (ws.getD i default).kind) ∧ w.cell? ⟨b, off + i * 5 + 1, none⟩ = some (.string (ws.getD i default).text) ∧
    w.cell? ⟨b, off + i * 5 + 2, none⟩ = some (.int .i64 (ws.getD i default).num) ∧ w.cell? ⟨b, off + i * 5 + 3, none⟩ = some (.int .i64 (ws.getD i default).byte) ∧ w.cell? ⟨b, off + i * 5 + 4, none⟩ = some (.int .i64 (ws.getD i default).char)
theorem RdW.below {w w' : World} {ao : Option Addr} {len cap : Nat} {ws : List FW} (h : RdW w ao len cap ws) {B : Nat} (hB : w.heap.size ≤ B) (hb : Below B w w') : RdW w' ao len cap ws := by
  refine ⟨h.eqlen, h.lecap, h.lemax, h.isnil, fun i hi => ?_⟩
  obtain ⟨b, off, rfl, hlt, h0, h1, h2, h3, h4⟩ := h.cell i hi
  have k : ∀ o v, w.cell? ⟨b, o, none⟩ = some v → w'.cell? ⟨b, o, none⟩ = some v := fun o v e => (hb.cell (p := ⟨b, o, none⟩) (Nat.lt_of_lt_of_le hlt hB)).trans e
  exact ⟨b, off, rfl, Nat.lt_of_lt_of_le hlt hb.size, k _ _ h0, k _ _ h1, k _ _ h2, k _ _ h3, k _ _ h4⟩
end Go.Proofs.YtabfhdmcljdjhaaGreatDoor.Gl
/- Trees of formulas and terms, and what there is to measure: plain mathematics. -/
namespace Go.Proofs.YtabfhdmcljdjhaaGreatDoor.Gl
set_option linter.unusedVariables false

inductive Tm where
  | mk (op num : Int) (name : ByteArray) (args : List Tm)
inductive Fm where
  | mk (op : Int) (name : ByteArray) (mod : Int) (terms : List Tm) (args : List Fm)
def Tm.op : Tm → Int | .mk o _ _ _ => o
def Tm.num : Tm → Int | .mk _ n _ _ => n
def Tm.name : Tm → ByteArray | .mk _ _ n _ => n
def Tm.args : Tm → List Tm | .mk _ _ _ a => a
def Fm.op : Fm → Int | .mk o _ _ _ _ => o
def Fm.name : Fm → ByteArray | .mk _ n _ _ _ => n
def Fm.mod : Fm → Int | .mk _ _ m _ _ => m
def Fm.terms : Fm → List Tm | .mk _ _ _ t _ => t
def Fm.args : Fm → List Fm | .mk _ _ _ _ a => a
/- how many nodes -/
mutual
def Tm.size : Tm → Nat | .mk _ _ _ a => Tm.sizeL a + 1
def Tm.sizeL : List Tm → Nat | [] => 0 | t :: r => Tm.size t + Tm.sizeL r
end
mutual
def Fm.size : Fm → Nat | .mk _ _ _ t a => Tm.sizeL t + Fm.sizeL a + 1
def Fm.sizeL : List Fm → Nat | [] => 0 | f :: r => Fm.size f + Fm.sizeL r
end
/- how deep -/
mutual
def Tm.deep : Tm → Nat | .mk _ _ _ a => Tm.deepL a + 1
def Tm.deepL : List Tm → Nat | [] => 0 | t :: r => max (Tm.deep t) (Tm.deepL r)
end
mutual
def Fm.deep : Fm → Nat | .mk _ _ _ t a => max (Tm.deepL t) (Fm.deepL a) + 1
def Fm.deepL : List Fm → Nat | [] => 0 | f :: r => max (Fm.deep f) (Fm.deepL r)
end
theorem Tm.size_mem {t : Tm} {l : List Tm} (h : t ∈ l) : t.size ≤ Tm.sizeL l := by
  induction l with
  | nil => cases h
  | cons x r ih =>
    rw [Tm.sizeL]
    rcases List.mem_cons.1 h with rfl | h
    · omega
    · have := ih h; omega
theorem Fm.size_mem {f : Fm} {l : List Fm} (h : f ∈ l) : f.size ≤ Fm.sizeL l := by
  induction l with
  | nil => cases h
  | cons x r ih =>
    rw [Fm.sizeL]
    rcases List.mem_cons.1 h with rfl | h
    · omega
    · have := ih h; omega
theorem Tm.ind {P : Tm → Prop} (h : ∀ o n x a, (∀ t ∈ a, P t) → P (.mk o n x a)) : ∀ t, P t := by
  have key : ∀ k t, Tm.size t ≤ k → P t := by
    intro k
    induction k with
    | zero => intro t ht; cases t with | mk o n x a => rw [Tm.size] at ht; omega
    | succ k ih =>
      intro t ht
      cases t with
      | mk o n x a =>
        rw [Tm.size] at ht
        exact h o n x a (fun t hm => ih t (by have := Tm.size_mem hm; omega))
  exact fun t => key _ t (Nat.le_refl _)
theorem Fm.ind {P : Fm → Prop} (h : ∀ o x m t a, (∀ f ∈ a, P f) → P (.mk o x m t a)) : ∀ f, P f := by
  have key : ∀ k f, Fm.size f ≤ k → P f := by
    intro k
    induction k with
    | zero => intro f hf; cases f with | mk o x m t a => rw [Fm.size] at hf; omega
    | succ k ih =>
      intro f hf
      cases f with
      | mk o x m t a =>
        rw [Fm.size] at hf
        exact h o x m t a (fun f hm => ih f (by have := Fm.size_mem hm; omega))
  exact fun f => key _ f (Nat.le_refl _)
/- the meter: nodes met, the deepest, the error -/
structure St where
  n : Nat
  d : Nat
  e : Nat
def St.node (dp : Nat) (good : Bool) (s : St) : St := ⟨s.n + 1, max s.d dp, if 500 < s.n + 1 then 73 else if 40 < dp then 72 else if good = true then s.e else 3⟩
/- is a node well made? 'nm' tells the names -/
def wT (nm : ByteArray → Bool) (o n : Int) (x : ByteArray) (len : Nat) : Bool :=
  if o = 0 then decide (0 ≤ n) && (x.toList == []) && decide (len = 0)
  else if o = 1 then decide (n = 0) && nm x && decide (len = 0)
  else if o = 2 then decide (n = 0) && (x.toList == []) && decide (len = 1)
  else if o = 3 ∨ o = 4 ∨ o = 5 then decide (n = 0) && (x.toList == []) && decide (len = 2)
  else false
def wellT (nm : ByteArray → Bool) : Tm → Bool
  | .mk o n x a => wT nm o n x a.length
def quant (o : Int) : Bool := decide (o = 7 ∨ o = 8)
def wF (nm : ByteArray → Bool) (o : Int) (x : ByteArray) (m : Int) (terms args : Nat) : Bool :=
  if o = 7 ∨ o = 8 then nm x && decide (m = 0) && decide (terms = 0) && decide (args = 1)
  else if o = 15 then (x.toList == []) && decide (1 ≤ m) && decide (terms = 2) && decide (args = 0)
  else if 0 ≤ o ∧ o ≤ 14 then (x.toList == []) && decide (m = 0) && decide (terms = if 9 ≤ o then 2 else 0) && decide (args = if o = 2 then 1 else if 3 ≤ o ∧ o ≤ 6 then 2 else 0)
  else false
def wellF (nm : ByteArray → Bool) : Fm → Bool
  | .mk o x m t a => wF nm o x m t.length a.length
mutual
def meterT (nm : ByteArray → Bool) : Tm → Nat → St → St
  | .mk o n x a, dp, s => meterTL nm a (dp + 1) (s.node dp (wellT nm (.mk o n x a)))
def meterTL (nm : ByteArray → Bool) : List Tm → Nat → St → St
  | [], _, s => s
  | t :: r, dp, s => if s.e = 0 then meterTL nm r dp (meterT nm t dp s) else s
end
mutual
def meterF (nm : ByteArray → Bool) : Fm → Nat → St → St
  | .mk o x m t a, dp, s => meterFL nm a (dp + 1) (meterTL nm t (dp + 1) (s.node dp (wellF nm (.mk o x m t a))))
def meterFL (nm : ByteArray → Bool) : List Fm → Nat → St → St
  | [], _, s => s
  | f :: r, dp, s => if s.e = 0 then meterFL nm r dp (meterF nm f dp s) else s
end
def chk (nm : ByteArray → Bool) (f : Fm) : Nat := (meterF nm f 1 ⟨0, 0, 0⟩).e
/- all nodes well made -/
mutual
def Tm.all (P : Tm → Bool) : Tm → Bool | .mk o n x a => P (.mk o n x a) && Tm.allL P a
def Tm.allL (P : Tm → Bool) : List Tm → Bool | [] => true | t :: r => Tm.all P t && Tm.allL P r
end
mutual
def Fm.all (P : Tm → Bool) (Q : Fm → Bool) : Fm → Bool | .mk o x m t a => Q (.mk o x m t a) && Tm.allL P t && Fm.allL P Q a
def Fm.allL (P : Tm → Bool) (Q : Fm → Bool) : List Fm → Bool | [] => true | f :: r => Fm.all P Q f && Fm.allL P Q r
end
theorem meterTL_err (nm : ByteArray → Bool) (l : List Tm) (dp : Nat) (s : St) (h : s.e ≠ 0) : meterTL nm l dp s = s := by
  cases l with
  | nil => rw [meterTL]
  | cons t r => rw [meterTL, if_neg h]
theorem meterFL_err (nm : ByteArray → Bool) (l : List Fm) (dp : Nat) (s : St) (h : s.e ≠ 0) : meterFL nm l dp s = s := by
  cases l with
  | nil => rw [meterFL]
  | cons t r => rw [meterFL, if_neg h]
/-- what the meter says of k nodes, the deepest at dd, all well made or not -/
def Fine (k dd : Nat) (good : Bool) (s s' : St) : Prop :=
  (s.e = 0 → s.n + k ≤ 500 → dd ≤ 40 → good = true → s' = ⟨s.n + k, max s.d dd, 0⟩) ∧ (s.e = 0 → s'.e = 0 → s.n ≤ 500 → s.n + k ≤ 500 ∧ dd ≤ 40 ∧ good = true)
theorem Fine.refl (s : St) : Fine 0 0 true s s :=
  ⟨fun h0 _ _ _ => by cases s; simp_all, fun _ _ h => ⟨by omega, by omega, rfl⟩⟩
theorem Fine.comp {k1 d1 k2 d2 : Nat} {g1 g2 : Bool} {s s1 s2 : St} (h1 : Fine k1 d1 g1 s s1) (h2 : Fine k2 d2 g2 s1 s2) (he : s1.e ≠ 0 → s2.e ≠ 0) : Fine (k1 + k2) (max d1 d2) (g1 && g2) s s2 := by
  refine ⟨fun a0 a1 a2 a3 => ?_, fun a0 a1 a2 => ?_⟩
  · rw [Bool.and_eq_true] at a3
    have e1 := h1.1 a0 (by omega) (by omega) a3.1
    have e2 := h2.1 (by rw [e1]) (by rw [e1]; show s.n + k1 + k2 ≤ 500; omega) (by omega) a3.2
    rw [e2, e1]
    congr 1
    · show s.n + k1 + k2 = _; omega
    · show max (max s.d d1) d2 = _; omega
  · have e0 : s1.e = 0 := Decidable.byContradiction (fun hc => he hc a1)
    obtain ⟨b1, b2, b3⟩ := h1.2 a0 e0 a2
    have e1 := h1.1 a0 b1 b2 b3
    obtain ⟨c1, c2, c3⟩ := h2.2 e0 a1 (by rw [e1]; exact b1)
    rw [e1] at c1
    have c1' : s.n + k1 + k2 ≤ 500 := c1
    exact ⟨by omega, by omega, by rw [b3, c3]; rfl⟩
theorem node_fine (dp : Nat) (good : Bool) (s : St) : Fine 1 dp good s (s.node dp good) := by
  unfold Fine St.node
  refine ⟨fun h0 h1 h2 h3 => ?_, fun h0 h1 h2 => ?_⟩
  · rw [if_neg (by omega), if_neg (by omega), if_pos h3, h0]
  · dsimp only at h1
    split at h1
    · cases h1
    · split at h1
      · cases h1
      · split at h1
        · rename_i a b c
          exact ⟨by omega, by omega, c⟩
        · cases h1
theorem node_bad {dp : Nat} {good : Bool} {s : St} (h : s.e ≠ 0) : (s.node dp good).e ≠ 0 := by
  unfold St.node
  dsimp only
  split
  · decide
  · split
    · decide
    · split
      · exact h
      · decide
/-- the depth of a list of parts whose first lies at dp -/
def under (dp m : Nat) : Nat := if m = 0 then 0 else dp - 1 + m
theorem Tm.deep_pos (t : Tm) : 1 ≤ t.deep := by cases t; rw [Tm.deep]; omega
theorem Fm.deep_pos (t : Fm) : 1 ≤ t.deep := by cases t; rw [Fm.deep]; omega
theorem meterT_bad (nm : ByteArray → Bool) (t : Tm) (dp : Nat) (s : St) (h : s.e ≠ 0) : (meterT nm t dp s).e ≠ 0 := by
  cases t with
  | mk o n x a => rw [meterT, meterTL_err _ _ _ _ (node_bad h)]; exact node_bad h
theorem meterTL_bad (nm : ByteArray → Bool) (l : List Tm) (dp : Nat) (s : St) (h : s.e ≠ 0) : (meterTL nm l dp s).e ≠ 0 := by
  rw [meterTL_err _ _ _ _ h]; exact h
theorem meterFL_bad (nm : ByteArray → Bool) (l : List Fm) (dp : Nat) (s : St) (h : s.e ≠ 0) : (meterFL nm l dp s).e ≠ 0 := by
  rw [meterFL_err _ _ _ _ h]; exact h
theorem Fine.vac {k dd : Nat} {g : Bool} {s s' : St} (h : s.e ≠ 0) : Fine k dd g s s' := ⟨fun h0 => absurd h0 h, fun h0 => absurd h0 h⟩
theorem meterTL_fine {nm : ByteArray → Bool} {l : List Tm} (hl : ∀ t ∈ l, ∀ dp s, 1 ≤ dp → Fine t.size (dp - 1 + t.deep) (t.all (wellT nm)) s (meterT nm t dp s)) (dp : Nat) (hdp : 1 ≤ dp) :
    ∀ s, Fine (Tm.sizeL l) (under dp (Tm.deepL l)) (Tm.allL (wellT nm) l) s (meterTL nm l dp s) := by
  induction l with
  | nil => intro s; rw [Tm.sizeL, Tm.deepL, Tm.allL, meterTL]; exact Fine.refl s
  | cons t r ih =>
    intro s
    by_cases h0 : s.e = 0
    · rw [Tm.sizeL, Tm.allL, meterTL, Tm.deepL, if_pos h0]
      have := (hl t (List.mem_cons_self ..) dp s hdp).comp (ih (fun u hu => hl u (List.mem_cons_of_mem _ hu)) (meterT nm t dp s)) (meterTL_bad nm r dp _)
      have hp := t.deep_pos
      have e : under dp (max t.deep (Tm.deepL r)) = max (dp - 1 + t.deep) (under dp (Tm.deepL r)) := by
        unfold under
        rw [if_neg (by omega)]
        split <;> omega
      rw [e]
      exact this
    · exact Fine.vac h0
theorem meterT_fine (nm : ByteArray → Bool) : ∀ t dp s, 1 ≤ dp → Fine (Tm.size t) (dp - 1 + Tm.deep t) (Tm.all (wellT nm) t) s (meterT nm t dp s) := by
  refine Tm.ind (fun o n x a ih dp s hdp => ?_)
  rw [Tm.size, Tm.deep, Tm.all, meterT]
  have := (node_fine dp (wellT nm (.mk o n x a)) s).comp (meterTL_fine (nm := nm) ih (dp + 1) (by omega) (s.node dp (wellT nm (.mk o n x a)))) (meterTL_bad nm a (dp + 1) _)
  rw [Nat.add_comm 1] at this
  have e : dp - 1 + (Tm.deepL a + 1) = max dp (under (dp + 1) (Tm.deepL a)) := by
    unfold under
    split <;> omega
  rw [e]
  exact this
theorem meterFL_fine {nm : ByteArray → Bool} {l : List Fm} (hl : ∀ t ∈ l, ∀ dp s, 1 ≤ dp → Fine t.size (dp - 1 + t.deep) (t.all (wellT nm) (wellF nm)) s (meterF nm t dp s)) (dp : Nat) (hdp : 1 ≤ dp) :
    ∀ s, Fine (Fm.sizeL l) (under dp (Fm.deepL l)) (Fm.allL (wellT nm) (wellF nm) l) s (meterFL nm l dp s) := by
  induction l with
  | nil => intro s; rw [Fm.sizeL, Fm.deepL, Fm.allL, meterFL]; exact Fine.refl s
  | cons t r ih =>
    intro s
    by_cases h0 : s.e = 0
    · rw [Fm.sizeL, Fm.allL, meterFL, Fm.deepL, if_pos h0]
      have := (hl t (List.mem_cons_self ..) dp s hdp).comp (ih (fun u hu => hl u (List.mem_cons_of_mem _ hu)) (meterF nm t dp s)) (meterFL_bad nm r dp _)
      have hp := t.deep_pos
      have e : under dp (max t.deep (Fm.deepL r)) = max (dp - 1 + t.deep) (under dp (Fm.deepL r)) := by
        unfold under
        rw [if_neg (by omega)]
        split <;> omega
      rw [e]
      exact this
    · exact Fine.vac h0
theorem meterF_fine (nm : ByteArray → Bool) : ∀ f dp s, 1 ≤ dp → Fine (Fm.size f) (dp - 1 + Fm.deep f) (Fm.all (wellT nm) (wellF nm) f) s (meterF nm f dp s) := by
  refine Fm.ind (fun o x m t a ih dp s hdp => ?_)
  rw [Fm.size, Fm.deep, Fm.all, meterF]
  have h1 := (node_fine dp (wellF nm (.mk o x m t a)) s).comp (meterTL_fine (nm := nm) (l := t) (fun u _ dp s h => meterT_fine nm u dp s h) (dp + 1) (by omega) (s.node dp (wellF nm (.mk o x m t a)))) (meterTL_bad nm t (dp + 1) _)
  have := h1.comp (meterFL_fine (nm := nm) ih (dp + 1) (by omega) _) (meterFL_bad nm a (dp + 1) _)
  have e1 : Tm.sizeL t + Fm.sizeL a + 1 = 1 + Tm.sizeL t + Fm.sizeL a := by omega
  have e : dp - 1 + (max (Tm.deepL t) (Fm.deepL a) + 1) = max (max dp (under (dp + 1) (Tm.deepL t))) (under (dp + 1) (Fm.deepL a)) := by
    unfold under
    split <;> split <;> omega
  rw [e, e1]
  exact this
def right (nm : ByteArray → Bool) (f : Fm) : Prop := f.size ≤ 500 ∧ f.deep ≤ 40 ∧ f.all (wellT nm) (wellF nm) = true
/-- no fault just if right; then the measures -/
theorem chk_iff (nm : ByteArray → Bool) (f : Fm) : chk nm f = 0 ↔ right nm f := by
  have h := meterF_fine nm f 1 ⟨0, 0, 0⟩ (by omega)
  constructor
  · intro h0
    obtain ⟨a, b, c⟩ := h.2 rfl h0 (by decide)
    exact ⟨by have : 0 + f.size ≤ 500 := a; omega, by omega, c⟩
  · rintro ⟨a, b, c⟩
    have := h.1 rfl (by show 0 + f.size ≤ 500; omega) (by omega) c
    unfold chk
    rw [this]
theorem meter_right {nm : ByteArray → Bool} {f : Fm} (hr : right nm f) : meterF nm f 1 ⟨0, 0, 0⟩ = ⟨f.size, f.deep, 0⟩ := by
  have h := meterF_fine nm f 1 ⟨0, 0, 0⟩ (by omega)
  have := h.1 rfl (by show 0 + f.size ≤ 500; have := hr.1; omega) (by have := hr.2.1; omega) hr.2.2
  rw [this]
  show St.mk (0 + f.size) (max 0 (1 - 1 + f.deep)) 0 = _
  congr 1
  · omega
  · omega
end Go.Proofs.YtabfhdmcljdjhaaGreatDoor.Gl
/- The grammar over words, as relations: what is read from a place on: plain mathematics. -/
namespace Go.Proofs.YtabfhdmcljdjhaaGreatDoor.Gl
set_option linter.unusedVariables false
set_option linter.unusedSimpArgs false

abbrev kNot : ByteArray := ⟨#[110, 111, 116]⟩
abbrev kEx : ByteArray := ⟨#[101, 120]⟩
abbrev kAll : ByteArray := ⟨#[97, 108, 108]⟩
abbrev kTrue : ByteArray := ⟨#[116, 114, 117, 101]⟩
abbrev kFalse : ByteArray := ⟨#[102, 97, 108, 115, 101]⟩
abbrev kMod : ByteArray := ⟨#[109, 111, 100]⟩
abbrev kAnd : ByteArray := ⟨#[97, 110, 100]⟩
abbrev kOr : ByteArray := ⟨#[111, 114]⟩
abbrev kTo : ByteArray := ⟨#[45, 62]⟩
abbrev kIff : ByteArray := ⟨#[60, 45, 62]⟩
abbrev kOpen : ByteArray := ⟨#[40]⟩
abbrev kShut : ByteArray := ⟨#[41]⟩
abbrev kSq : ByteArray := ⟨#[91]⟩
abbrev kQs : ByteArray := ⟨#[93]⟩
abbrev kComma : ByteArray := ⟨#[44]⟩
abbrev kDot : ByteArray := ⟨#[46]⟩
abbrev kPlus : ByteArray := ⟨#[43]⟩
abbrev kMinus : ByteArray := ⟨#[45]⟩
abbrev kStar : ByteArray := ⟨#[42]⟩
/- the atoms' signs: <=, <, >=, >, =, !=, ~ -/
abbrev rels : List ByteArray := [⟨#[60, 61]⟩, ⟨#[60]⟩, ⟨#[62, 61]⟩, ⟨#[62]⟩, ⟨#[61]⟩, ⟨#[33, 61]⟩, ⟨#[126]⟩]
/-- a sign, a name, a number stands at p -/
def IsS (ws : List Wd) (p : Nat) (x : ByteArray) : Prop := ∃ w, ws[p]? = some w ∧ w.kind = 2 ∧ w.text = x
def IsN (ws : List Wd) (p : Nat) (x : ByteArray) : Prop := ∃ w, ws[p]? = some w ∧ w.kind = 0 ∧ w.text = x
def IsD (ws : List Wd) (p : Nat) (n : Nat) : Prop := ∃ w, ws[p]? = some w ∧ w.kind = 1 ∧ w.num = n
theorem lt_of_some {ws : List Wd} {p : Nat} {w : Wd} (h : ws[p]? = some w) : p < ws.length := (List.getElem?_eq_some_iff.1 h).1
theorem IsS.lt {ws : List Wd} {p : Nat} {x : ByteArray} (h : IsS ws p x) : p < ws.length := lt_of_some h.choose_spec.1
theorem IsN.lt {ws : List Wd} {p : Nat} {x : ByteArray} (h : IsN ws p x) : p < ws.length := lt_of_some h.choose_spec.1
theorem IsD.lt {ws : List Wd} {p n : Nat} (h : IsD ws p n) : p < ws.length := lt_of_some h.choose_spec.1
theorem IsS.one {ws : List Wd} {p : Nat} {x y : ByteArray} (h : IsS ws p x) (k : IsS ws p y) : x = y := by
  obtain ⟨w, a, _, b⟩ := h
  obtain ⟨w', a', _, b'⟩ := k
  rw [a] at a'
  cases a'
  exact b.symm.trans b'
inductive Out (α : Type) where
  | ok (a : α) (q : Nat)
  | bad (why q : Nat)
abbrev tNeg (x : Tm) : Tm := .mk 2 0 emp [x]
abbrev tMul (x y : Tm) : Tm := .mk 5 0 emp [x, y]
abbrev tAdd (x y : Tm) : Tm := .mk 3 0 emp [x, y]
abbrev tSub (x y : Tm) : Tm := .mk 4 0 emp [x, y]
/- what a term's part is -/
inductive QT where
  | fac
  | prod
  | prodL (x : Tm)
  | sum
  | sumL (x : Tm)
inductive PT (ws : List Wd) : QT → Nat → Out Tm → Prop
  | sqBad {p e q} : IsS ws p kSq → PT ws .sum (p + 1) (.bad e q) → PT ws .fac p (.bad e q)
  | sqNo {p x q} : IsS ws p kSq → PT ws .sum (p + 1) (.ok x q) → ¬ IsS ws q kQs → PT ws .fac p (.bad 71 q)
  | sq {p x q} : IsS ws p kSq → PT ws .sum (p + 1) (.ok x q) → IsS ws q kQs → PT ws .fac p (.ok x (q + 1))
  | negBad {p e q} : IsS ws p kMinus → PT ws .fac (p + 1) (.bad e q) → PT ws .fac p (.bad e q)
  | neg {p x q} : IsS ws p kMinus → PT ws .fac (p + 1) (.ok x q) → PT ws .fac p (.ok (tNeg x) q)
  | name {p x} : IsN ws p x → PT ws .fac p (.ok (.mk 1 0 x []) (p + 1))
  | num {p n} : IsD ws p n → PT ws .fac p (.ok (.mk 0 n emp []) (p + 1))
  | none {p} : ¬ IsS ws p kSq → ¬ IsS ws p kMinus → (∀ x, ¬ IsN ws p x) → (∀ n, ¬ IsD ws p n) → PT ws .fac p (.bad 71 p)
  | prodBad {p e q} : PT ws .fac p (.bad e q) → PT ws .prod p (.bad e q)
  | prod {p x q r} : PT ws .fac p (.ok x q) → PT ws (.prodL x) q r → PT ws .prod p r
  | prodStop {p x} : ¬ IsS ws p kStar → PT ws (.prodL x) p (.ok x p)
  | prodLBad {p x e q} : IsS ws p kStar → PT ws .fac (p + 1) (.bad e q) → PT ws (.prodL x) p (.bad e q)
  | prodL {p x y q r} : IsS ws p kStar → PT ws .fac (p + 1) (.ok y q) → PT ws (.prodL (tMul x y)) q r → PT ws (.prodL x) p r
  | sumBad {p e q} : PT ws .prod p (.bad e q) → PT ws .sum p (.bad e q)
  | sum {p x q r} : PT ws .prod p (.ok x q) → PT ws (.sumL x) q r → PT ws .sum p r
  | sumStop {p x} : ¬ IsS ws p kPlus → ¬ IsS ws p kMinus → PT ws (.sumL x) p (.ok x p)
  | addBad {p x e q} : IsS ws p kPlus → PT ws .prod (p + 1) (.bad e q) → PT ws (.sumL x) p (.bad e q)
  | add {p x y q r} : IsS ws p kPlus → PT ws .prod (p + 1) (.ok y q) → PT ws (.sumL (tAdd x y)) q r → PT ws (.sumL x) p r
  | subBad {p x e q} : IsS ws p kMinus → PT ws .prod (p + 1) (.bad e q) → PT ws (.sumL x) p (.bad e q)
  | sub {p x y q r} : IsS ws p kMinus → PT ws .prod (p + 1) (.ok y q) → PT ws (.sumL (tSub x y)) q r → PT ws (.sumL x) p r
/- how far it goes -/
def QT.more : QT → Nat
  | .prodL _ => 0
  | .sumL _ => 0
  | _ => 1
def Out.far {α : Type} (n p : Nat) (len : Nat) : Out α → Prop
  | .ok _ q => p + n ≤ q ∧ q ≤ max p len
  | .bad _ q => p ≤ q ∧ q ≤ max p len
theorem PT.far {ws : List Wd} {k : QT} {p : Nat} {r : Out Tm} (h : PT ws k p r) : r.far k.more p ws.length := by
  induction h with
  | sqBad a _ i => have := a.lt; simp only [Out.far, QT.more] at *; omega
  | sqNo a _ _ i => have := a.lt; simp only [Out.far, QT.more] at *; omega
  | sq a _ b i => have := a.lt; have := b.lt; simp only [Out.far, QT.more] at *; omega
  | negBad a _ i => have := a.lt; simp only [Out.far, QT.more] at *; omega
  | neg a _ i => have := a.lt; simp only [Out.far, QT.more] at *; omega
  | name a => have := a.lt; simp only [Out.far, QT.more] at *; omega
  | num a => have := a.lt; simp only [Out.far, QT.more] at *; omega
  | none _ _ _ _ => simp only [Out.far, QT.more] at *; omega
  | prodBad _ i => simp only [Out.far, QT.more] at *; omega
  | @prod p x q r _ _ i j => cases r <;> simp only [Out.far, QT.more] at * <;> omega
  | prodStop _ => simp only [Out.far, QT.more] at *; omega
  | prodLBad a _ i => have := a.lt; simp only [Out.far, QT.more] at *; omega
  | @prodL p x y q r a _ _ i j => have := a.lt; cases r <;> simp only [Out.far, QT.more] at * <;> omega
  | sumBad _ i => simp only [Out.far, QT.more] at *; omega
  | @sum p x q r _ _ i j => cases r <;> simp only [Out.far, QT.more] at * <;> omega
  | sumStop _ _ => simp only [Out.far, QT.more] at *; omega
  | addBad a _ i => have := a.lt; simp only [Out.far, QT.more] at *; omega
  | @add p x y q r a _ _ i j => have := a.lt; cases r <;> simp only [Out.far, QT.more] at * <;> omega
  | subBad a _ i => have := a.lt; simp only [Out.far, QT.more] at *; omega
  | @sub p x y q r a _ _ i j => have := a.lt; cases r <;> simp only [Out.far, QT.more] at * <;> omega
/- there is an answer -/
theorem PT.ex (ws : List Wd) : ∀ k p, ws.length - p ≤ k → (∃ r, PT ws .fac p r) ∧ (∃ r, PT ws .prod p r) ∧ (∃ r, PT ws .sum p r) ∧ (∀ x, ∃ r, PT ws (.prodL x) p r) ∧ ∀ x, ∃ r, PT ws (.sumL x) p r := by
  intro k
  induction k using Nat.strongRecOn with
  | _ k ih =>
    intro p hp
    have hfac : ∃ r, PT ws .fac p r := by
      by_cases h1 : IsS ws p kSq
      · obtain ⟨r, hr⟩ := (ih (k - 1) (by have := h1.lt; omega) (p + 1) (by have := h1.lt; omega)).2.2.1
        cases r with
        | bad e q => exact ⟨_, .sqBad h1 hr⟩
        | ok x q =>
          by_cases h2 : IsS ws q kQs
          · exact ⟨_, .sq h1 hr h2⟩
          · exact ⟨_, .sqNo h1 hr h2⟩
      · by_cases h2 : IsS ws p kMinus
        · obtain ⟨r, hr⟩ := (ih (k - 1) (by have := h2.lt; omega) (p + 1) (by have := h2.lt; omega)).1
          cases r with
          | bad e q => exact ⟨_, .negBad h2 hr⟩
          | ok x q => exact ⟨_, .neg h2 hr⟩
        · by_cases h3 : ∃ x, IsN ws p x
          · obtain ⟨x, h3⟩ := h3; exact ⟨_, .name h3⟩
          · by_cases h4 : ∃ n, IsD ws p n
            · obtain ⟨n, h4⟩ := h4; exact ⟨_, .num h4⟩
            · exact ⟨_, .none h1 h2 (fun x hx => h3 ⟨x, hx⟩) (fun n hn => h4 ⟨n, hn⟩)⟩
    have hpl : ∀ x, ∃ r, PT ws (.prodL x) p r := by
      intro x
      by_cases h1 : IsS ws p kStar
      · have hlt := h1.lt
        obtain ⟨r, hr⟩ := (ih (k - 1) (by omega) (p + 1) (by omega)).1
        cases r with
        | bad e q => exact ⟨_, .prodLBad h1 hr⟩
        | ok y q =>
          have := hr.far
          simp only [Out.far, QT.more] at this
          obtain ⟨r, hr'⟩ := (ih (k - 1) (by omega) q (by omega)).2.2.2.1 (tMul x y)
          exact ⟨_, .prodL h1 hr hr'⟩
      · exact ⟨_, .prodStop h1⟩
    have hprod : ∃ r, PT ws .prod p r := by
      obtain ⟨r, hr⟩ := hfac
      cases r with
      | bad e q => exact ⟨_, .prodBad hr⟩
      | ok x q =>
        have := hr.far
        simp only [Out.far, QT.more] at this
        obtain ⟨r, hr'⟩ := (ih (k - 1) (by omega) q (by omega)).2.2.2.1 x
        exact ⟨_, .prod hr hr'⟩
    have hsl : ∀ x, ∃ r, PT ws (.sumL x) p r := by
      intro x
      by_cases h1 : IsS ws p kPlus
      · have hlt := h1.lt
        obtain ⟨r, hr⟩ := (ih (k - 1) (by omega) (p + 1) (by omega)).2.1
        cases r with
        | bad e q => exact ⟨_, .addBad h1 hr⟩
        | ok y q =>
          have := hr.far
          simp only [Out.far, QT.more] at this
          obtain ⟨r, hr'⟩ := (ih (k - 1) (by omega) q (by omega)).2.2.2.2 (tAdd x y)
          exact ⟨_, .add h1 hr hr'⟩
      · by_cases h2 : IsS ws p kMinus
        · have hlt := h2.lt
          obtain ⟨r, hr⟩ := (ih (k - 1) (by omega) (p + 1) (by omega)).2.1
          cases r with
          | bad e q => exact ⟨_, .subBad h2 hr⟩
          | ok y q =>
            have := hr.far
            simp only [Out.far, QT.more] at this
            obtain ⟨r, hr'⟩ := (ih (k - 1) (by omega) q (by omega)).2.2.2.2 (tSub x y)
            exact ⟨_, .sub h2 hr hr'⟩
        · exact ⟨_, .sumStop h1 h2⟩
    have hsum : ∃ r, PT ws .sum p r := by
      obtain ⟨r, hr⟩ := hprod
      cases r with
      | bad e q => exact ⟨_, .sumBad hr⟩
      | ok x q =>
        have := hr.far
        simp only [Out.far, QT.more] at this
        obtain ⟨r, hr'⟩ := (ih (k - 1) (by omega) q (by omega)).2.2.2.2 x
        exact ⟨_, .sum hr hr'⟩
    exact ⟨hfac, hprod, hsum, hpl, hsl⟩
end Go.Proofs.YtabfhdmcljdjhaaGreatDoor.Gl
