/- The document's reader: mathematics of a level and of a quantifier; rows of formulas. -/
import Derived.Test.YtabfhdmcljdjhaaGreatDoorDcR
namespace Go.Proofs.YtabfhdmcljdjhaaGreatDoor.Gl
open Go.RowKit
set_option linter.unusedVariables false
set_option linter.unusedSimpArgs false

/- levels -/
def Toz (ws : List Wd) (r0 R : Out Fm) : Prop := (¬ r0.pos.stands ws kTo → R.pos = r0.pos ∧ ∀ f, r0.is f → R.is f) ∧ ∀ q, r0.pos = .at q → IsS ws q kTo → ∃ r', GF ws (.lev 1) (.at (q + 1)) r' ∧ R.pos = r'.pos ∧ ∀ f g, r0.is f → r'.is g → R.is (fPair 5 f g)
def Lt (ws : List Wd) (P : Pos) : Fm → List Fm → Out Fm → Prop
  | f, [], r => ∃ r0, r0.pos = P ∧ r0.is f ∧ Toz ws r0 r
  | f, g :: l, r => ∃ r', r.pos = r'.pos ∧ (∀ x, r'.is x → r.is (fPair 5 f x)) ∧ Lt ws P g l r'
/-- f, l: what has been read of a level; from P on the answer is r -/
def Lv (ws : List Wd) (n : Nat) (f : Fm) (l : List Fm) (P : Pos) (r : Out Fm) : Prop := if n = 1 then Lt ws P f l r else GL ws n (foldL (opOf n) f l) P r
theorem lv_start {ws : List Wd} {n : Nat} (hn : n < 4) {P : Pos} {r : Out Fm} (h : GF ws (.lev n) P r) : ∃ r0, GF ws (.lev (n + 1)) P r0 ∧ ∀ f, r0.is f → Lv ws n f [] r0.pos r := by
  by_cases h1 : n = 1
  · subst h1
    obtain ⟨r0, h0, a, b⟩ := gf_to h
    exact ⟨r0, h0, fun f hf => ⟨r0, rfl, hf, a, b⟩⟩
  · obtain ⟨r0, h0, a⟩ := gf_lev hn h1 h
    refine ⟨r0, h0, fun f hf => ?_⟩
    unfold Lv
    rw [if_neg h1]
    exact a f hf
theorem lt_no {ws : List Wd} {P : Pos} (hn : ¬ P.stands ws kTo) : ∀ (l : List Fm) (f : Fm) (r : Out Fm), Lt ws P f l r → r.pos = P ∧ r.is (foldR 5 f l)
  | [], f, r, ⟨r0, h0, h1, h2⟩ => by subst h0; exact ⟨(h2.1 hn).1, (h2.1 hn).2 f h1⟩
  | g :: l, f, r, ⟨r', hp, hi, h⟩ => by
    obtain ⟨a, b⟩ := lt_no hn l g r' h
    exact ⟨hp.trans a, hi _ b⟩
theorem lv_no {ws : List Wd} {n : Nat} {f : Fm} {l : List Fm} {P : Pos} {r : Out Fm} (h : Lv ws n f l P r) (hn : ¬ P.stands ws (sgOf n)) : r.pos = P ∧ r.is (fold n f l) := by
  unfold Lv at h
  by_cases h1 : n = 1
  · subst h1
    rw [if_pos rfl] at h
    exact lt_no hn l f r h
  · rw [if_neg h1] at h
    rw [fold_L h1]
    exact gl_no h hn
theorem lt_yes {ws : List Wd} {p : Nat} (hs : IsS ws p kTo) : ∀ (l : List Fm) (f : Fm) (r : Out Fm), Lt ws (.at p) f l r → ∃ r', GF ws (.lev 2) (.at (p + 1)) r' ∧ ∀ g, r'.is g → Lt ws r'.pos f (l ++ [g]) r
  | [], f, r, ⟨r0, h0, h1, h2⟩ => by
    obtain ⟨R, hR, hp, hi⟩ := h2.2 p h0 hs
    obtain ⟨r2, hr2, a, b⟩ := gf_to hR
    exact ⟨r2, hr2, fun g hg => ⟨R, hp, fun x hx => hi f x h1 hx, r2, rfl, hg, a, b⟩⟩
  | g :: l, f, r, ⟨r', hp, hi, h⟩ => by
    obtain ⟨r2, hr2, a⟩ := lt_yes hs l g r' h
    exact ⟨r2, hr2, fun x hx => ⟨r', hp, hi, a x hx⟩⟩
theorem foldL_snoc (o : Int) (g : Fm) : ∀ (l : List Fm) (f : Fm), foldL o f (l ++ [g]) = fPair o (foldL o f l) g
  | [], f => rfl
  | x :: l, f => foldL_snoc o g l _
theorem lv_yes {ws : List Wd} {n : Nat} {f : Fm} {l : List Fm} {p : Nat} {r : Out Fm} (h : Lv ws n f l (.at p) r) (hs : IsS ws p (sgOf n)) : ∃ r', GF ws (.lev (n + 1)) (.at (p + 1)) r' ∧ ∀ g, r'.is g → Lv ws n f (l ++ [g]) r'.pos r := by
  unfold Lv at h ⊢
  by_cases h1 : n = 1
  · subst h1
    rw [if_pos rfl] at h
    simp only [if_pos]
    exact lt_yes hs l f r h
  · rw [if_neg h1] at h
    simp only [if_neg h1]
    obtain ⟨r', hr', a⟩ := gl_yes h hs
    exact ⟨r', hr', fun g hg => by rw [foldL_snoc]; exact a g hg⟩
/-- a list's fold -/
def foR (o : Int) : List Fm → Fm
  | [] => fTrue
  | f :: l => foldR o f l
def foL (o : Int) : List Fm → Fm
  | [] => fTrue
  | f :: l => foldL o f l
abbrev fget (L : List Fm) (i : Nat) : Fm := L.getD i fTrue
theorem fget_drop (L : List Fm) (i : Nat) (h : i < L.length) : L.drop i = fget L i :: L.drop (i + 1) := by
  rw [List.drop_eq_getElem_cons h, fget, List.getD_eq_getElem?_getD, List.getElem?_eq_getElem h]
  rfl
theorem fget_take (L : List Fm) (i : Nat) (h : i < L.length) : L.take (i + 1) = L.take i ++ [fget L i] := by
  rw [List.take_succ_eq_append_getElem h, fget, List.getD_eq_getElem?_getD, List.getElem?_eq_getElem h]
  rfl
theorem foR_last (o : Int) (L : List Fm) (i : Nat) (h : i + 1 = L.length) : foR o (L.drop i) = fget L i := by
  rw [fget_drop L i (by omega), List.drop_of_length_le (by omega)]
  rfl
theorem foR_step (o : Int) (L : List Fm) (i : Nat) (h : i + 1 < L.length) : foR o (L.drop i) = fPair o (fget L i) (foR o (L.drop (i + 1))) := by
  rw [fget_drop L i (by omega), fget_drop L (i + 1) h]
  rfl
theorem foL_first (o : Int) (L : List Fm) (h : 0 < L.length) : foL o (L.take 1) = fget L 0 := by
  cases L with
  | nil => simp at h
  | cons f l => rfl
theorem foL_step (o : Int) (L : List Fm) (i : Nat) (h0 : 0 < i) (h : i < L.length) : foL o (L.take (i + 1)) = fPair o (foL o (L.take i)) (fget L i) := by
  rw [fget_take L i h]
  cases L with
  | nil => simp at h
  | cons f l =>
    obtain ⟨j, rfl⟩ : ∃ j, i = j + 1 := ⟨i - 1, by omega⟩
    rw [List.take_succ_cons]
    exact foldL_snoc o _ _ _
theorem fold_of {n : Nat} {f : Fm} {l : List Fm} : fold n f l = if n = 1 then foR 5 (f :: l) else foL (opOf n) (f :: l) := by
  by_cases h1 : n = 1
  · subst h1; rfl
  · rw [fold_L h1, if_neg h1]; rfl
/- quantifiers -/
theorem quants_snoc (o : Int) (x : ByteArray) (f : Fm) : ∀ l : List ByteArray, quants o (l ++ [x]) f = quants o l (fQ o x f)
  | [] => rfl
  | y :: l => congrArg (fQ o y) (quants_snoc o x f l)
/-- l: the names that have been read -/
def Qv (ws : List Wd) (o : Int) (l : List ByteArray) (P : Pos) (r : Out Fm) : Prop := ∃ R, GQ ws o P R ∧ r.pos = R.pos ∧ ∀ f, R.is f → r.is (quants o l f)
theorem qv_none {ws : List Wd} {o : Int} {l : List ByteArray} {P : Pos} {r : Out Fm} (h : Qv ws o l P r) (hn : ¬ P.kinds ws 0) : r.pos = P.ref 71 ∧ ∀ f, r.is f := by
  obtain ⟨R, hR, hp, hi⟩ := h
  obtain ⟨a, b⟩ := gq_none hR hn
  refine ⟨hp.trans a, fun f => ?_⟩
  rw [a] at hp
  cases r with
  | bad e q => exact is_bad
  | ok x q => cases P <;> cases hp
theorem qv_more {ws : List Wd} {o : Int} {l : List ByteArray} {p : Nat} {x : ByteArray} {r : Out Fm} (h : Qv ws o l (.at p) r) (hx : IsN ws p x) (hc : IsS ws (p + 1) kComma) : Qv ws o (l ++ [x]) (.at (p + 2)) r := by
  obtain ⟨R, hR, hp, hi⟩ := h
  obtain ⟨R', hR', hp', hi'⟩ := gq_more hR hx hc
  exact ⟨R', hR', hp.trans hp', fun f hf => by rw [quants_snoc]; exact hi _ (hi' f hf)⟩
theorem qv_last {ws : List Wd} {o : Int} {l : List ByteArray} {p : Nat} {x : ByteArray} {r : Out Fm} (h : Qv ws o l (.at p) r) (hx : IsN ws p x) (hc : ¬ IsS ws (p + 1) kComma) {P' : Pos} (hP : (Pos.at (p + 1)).need ws kDot P') : ∃ r', GF ws .un P' r' ∧ r.pos = r'.pos ∧ ∀ f, r'.is f → r.is (quants o (l ++ [x]) f) := by
  obtain ⟨R, hR, hp, hi⟩ := h
  obtain ⟨R', hR', hp', hi'⟩ := gq_last hR hx hc P' hP
  exact ⟨R', hR', hp.trans hp', fun f hf => by rw [quants_snoc]; exact hi _ (hi' f hf)⟩
/- rows of formulas -/
structure FV where
  o : Int
  x : ByteArray
  m : Int
  bo : Option Addr
  n1 : Nat
  c1 : Nat
  ao : Option Addr
  n : Nat
  c : Nat
instance : Inhabited FV := ⟨⟨0, emp, 0, none, 0, 0, none, 0, 0⟩⟩
def FV.cells (e : FV) : List Value := [.int .i64 e.o, .string e.x, .int .i64 e.m, .slice e.bo e.n1 e.c1, .slice e.ao e.n e.c]
abbrev FV.arr (e : FV) : Array Value := #[.int .i64 e.o, .string e.x, .int .i64 e.m, .slice e.bo e.n1 e.c1, .slice e.ao e.n e.c]
abbrev FV.rd (P : Nat → Prop) (W : World) (f : Fm) (e : FV) : Prop := RdFn P W f (.int .i64 e.o) (.string e.x) (.int .i64 e.m) (.slice e.bo e.n1 e.c1) (.slice e.ao e.n e.c)
abbrev eget (E : List FV) (i : Nat) : FV := E.getD i default
/-- a row's trees -/
structure FVs (P : Nat → Prop) (W : World) (L : List Fm) (E : List FV) : Prop where
  len : L.length = E.length
  each : ∀ i, i < L.length → FV.rd P W (fget L i) (eget E i)
theorem FVs.keep {P : Nat → Prop} {W W' : World} {L : List Fm} {E : List FV} (h : FVs P W L E) (hb : Hi P W W') : FVs P W' L E := ⟨h.len, fun i hi => (h.each i hi).keep hb⟩
theorem FVs.low {P P' : Nat → Prop} {W : World} {L : List Fm} {E : List FV} (h : FVs P W L E) (hb : ∀ k, k < W.heap.size → P k → P' k) : FVs P' W L E := ⟨h.len, fun i hi => (h.each i hi).low hb⟩
theorem FVs.one {P : Nat → Prop} {W : World} {f : Fm} {e : FV} (h : FV.rd P W f e) : FVs P W [f] [e] := ⟨rfl, fun i hi => by
  obtain rfl : i = 0 := by simp at hi; omega
  exact h⟩
theorem FVs.snoc {P : Nat → Prop} {W : World} {L : List Fm} {E : List FV} {f : Fm} {e : FV} (h : FVs P W L E) (k : FV.rd P W f e) : FVs P W (L ++ [f]) (E ++ [e]) := by
  have hl := h.len
  refine ⟨by simp [hl], fun i hi => ?_⟩
  rw [List.length_append, List.length_singleton] at hi
  by_cases hlt : i < L.length
  · have := h.each i hlt
    rw [fget, eget, List.getD_eq_getElem?_getD, List.getD_eq_getElem?_getD, List.getElem?_append_left hlt, List.getElem?_append_left (by omega), ← List.getD_eq_getElem?_getD, ← List.getD_eq_getElem?_getD]
    exact this
  · obtain rfl : i = L.length := by omega
    rw [fget, eget, List.getD_eq_getElem?_getD, List.getD_eq_getElem?_getD, List.getElem?_append_right (Nat.le_refl _), hl, List.getElem?_append_right (Nat.le_refl _), Nat.sub_self]
    exact k
theorem mkF2r {P : Nat → Prop} {g : Nat} {W : World} {x y : Fm} {c0 c1 c2 c3 c4 d0 d1 d2 d3 d4 : Value} {t : TypeId} (h : RdFn P W x c0 c1 c2 c3 c4) (k : RdFn P W y d0 d1 d2 d3 d4) (hR : Rb W g #[c0, c1, c2, c3, c4, d0, d1, d2, d3, d4] t) (hb : P g) (o m : Int) (nm : ByteArray) (hi : I64 o ∧ I64 m ∧ Sz nm.size) : RdFn P W (.mk o nm m [] [x, y]) (.int .i64 o) (.string nm) (.int .i64 m) (.slice none 0 0) (.slice (some ⟨g, 0, none⟩) 2 2) := by
  rw [RdFn]
  refine ⟨rfl, rfl, rfl, hi, ⟨none, 0, rfl, Nat.le_refl _, by decide, by rw [RdTnL]; trivial⟩, some ⟨g, 0, none⟩, 2, rfl, Nat.le_refl _, by decide, ?_⟩
  rw [RdFnL, RdFnL, RdFnL]
  exact ⟨⟨g, 0, c0, c1, c2, c3, c4, rfl, hb, (Array.getElem?_eq_some_iff.1 hR).1, (txcell hR 0 _ rfl).1, (txcell hR 1 _ rfl).1, (txcell hR 2 _ rfl).1, (txcell hR 3 _ rfl).1, (txcell hR 4 _ rfl).1, h⟩, ⟨g, 0, d0, d1, d2, d3, d4, rfl, hb, (Array.getElem?_eq_some_iff.1 hR).1, (txcell hR 5 _ rfl).1, (txcell hR 6 _ rfl).1, (txcell hR 7 _ rfl).1, (txcell hR 8 _ rfl).1, (txcell hR 9 _ rfl).1, k⟩, trivial⟩
theorem mkF1r {P : Nat → Prop} {g : Nat} {W : World} {f : Fm} {c0 c1 c2 c3 c4 : Value} {t : TypeId} (h : RdFn P W f c0 c1 c2 c3 c4) (hR : Rb W g #[c0, c1, c2, c3, c4] t) (hb : P g) (o m : Int) (nm : ByteArray) (hi : I64 o ∧ I64 m ∧ Sz nm.size) : RdFn P W (.mk o nm m [] [f]) (.int .i64 o) (.string nm) (.int .i64 m) (.slice none 0 0) (.slice (some ⟨g, 0, none⟩) 1 1) := by
  rw [RdFn]
  refine ⟨rfl, rfl, rfl, hi, ⟨none, 0, rfl, Nat.le_refl _, by decide, by rw [RdTnL]; trivial⟩, some ⟨g, 0, none⟩, 1, rfl, Nat.le_refl _, by decide, ?_⟩
  rw [RdFnL, RdFnL]
  exact ⟨⟨g, 0, c0, c1, c2, c3, c4, rfl, hb, (Array.getElem?_eq_some_iff.1 hR).1, (txcell hR 0 _ rfl).1, (txcell hR 1 _ rfl).1, (txcell hR 2 _ rfl).1, (txcell hR 3 _ rfl).1, (txcell hR 4 _ rfl).1, h⟩, trivial⟩
end Go.Proofs.YtabfhdmcljdjhaaGreatDoor.Gl
