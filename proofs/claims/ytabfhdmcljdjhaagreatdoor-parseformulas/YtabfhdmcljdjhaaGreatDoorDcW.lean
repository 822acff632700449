/- The document's reader: mathematics of a level and of a quantifier; rows of formulas. -/
import Derived.Test.YtabfhdmcljdjhaaGreatDoorDcR
namespace Go.Proofs.YtabfhdmcljdjhaaGreatDoor.Gl
open Go.RowKit
set_option linter.unusedVariables false
set_option linter.unusedSimpArgs false

/- levels -/
def Toz (ws : List Wd) (r0 R : Out Fm) : Prop := (¬ r0.pos.stands ws kTo → R.pos = r0.pos ∧ ∀ f, r0.is f → R.is f) ∧ ∀ q, r0.pos = .at q → IsS ws q kTo → ∃ r', GF ws (.lev 1) (.at (q + 1)) r' ∧ R.pos = r'.pos ∧ ∀ f g, r0.is f → r'.is g → R.is (fPair 5 f g)
def Lt (ws : List Wd) (P : Pos) : Fm → List Fm → Out Fm → Prop
  | f, [], r => ∃ r0, r0.pos = P ∧ r0.is f ∧ Toz ws r0 r
  | f, g :: l, r => ∃ r', r.pos = r'.pos ∧ (∀ x, r'.is x → r.is (fPair 5 f x)) ∧ Lt ws P g l r'
/-- f, l: what has been read of a level; from P on the answer is r -/
def Lv (ws : List Wd) (n : Nat) (f : Fm) (l : List Fm) (P : Pos) (r : Out Fm) : Prop := if n = 1 then Lt ws P f l r else GL ws n (foldL (opOf n) f l) P r
theorem lv_start {ws : List Wd} {n : Nat} (hn : n < 4) {P : Pos} {r : Out Fm} (h : GF ws (.lev n) P r) : ∃ r0, GF ws (.lev (n + 1)) P r0 ∧ ∀ f, r0.is f → Lv ws n f [] r0.pos r := by
  by_cases h1 : n = 1
  · subst h1
    obtain ⟨r0, h0, a, b⟩ := gf_to h
    exact ⟨r0, h0, fun f hf => ⟨r0, rfl, hf, a, b⟩⟩
  · obtain ⟨r0, h0, a⟩ := gf_lev hn h1 h
    refine ⟨r0, h0, fun f hf => ?_⟩
    unfold Lv
    rw [if_neg h1]
    exact a f hf
theorem lt_no {ws : List Wd} {P : Pos} (hn : ¬ P.stands ws kTo) : ∀ (l : List Fm) (f : Fm) (r : Out Fm), Lt ws P f l r → r.pos = P ∧ r.is (foldR 5 f l)
  | [], f, r, ⟨r0, h0, h1, h2⟩ => by subst h0; exact ⟨(h2.1 hn).1, (h2.1 hn).2 f h1⟩
  | g :: l, f, r, ⟨r', hp, hi, h⟩ => by
    obtain ⟨a, b⟩ := lt_no hn l g r' h
    exact ⟨hp.trans a, hi _ b⟩
theorem lv_no {ws : List Wd} {n : Nat} {f : Fm} {l : List Fm} {P : Pos} {r : Out Fm} (h : Lv ws n f l P r) (hn : ¬ P.stands ws (sgOf n)) : r.pos = P ∧ r.is (fold n f l) := by
  unfold Lv at h
  by_cases h1 : n = 1
  · subst h1
    rw [if_pos rfl] at h
    exact lt_no hn l f r h
  · rw [if_neg h1] at h
    rw [fold_L h1]
    exact gl_no h hn
theorem lt_yes {ws : List Wd} {p : Nat} (hs : IsS ws p kTo) : ∀ (l : List Fm) (f : Fm) (r : Out Fm), Lt ws (.at p) f l r → ∃ r', GF ws (.lev 2) (.at (p + 1)) r' ∧ ∀ g, r'.is g → Lt ws r'.pos f (l ++ [g]) r
  | [], f, r, ⟨r0, h0, h1, h2⟩ => by
    obtain ⟨R, hR, hp, hi⟩ := h2.2 p h0 hs
    obtain ⟨r2, hr2, a, b⟩ := gf_to hR
    exact ⟨r2, hr2, fun g hg => ⟨R, hp, fun x hx => hi f x h1 hx, r2, rfl, hg, a, b⟩⟩
  | g :: l, f, r, ⟨r', hp, hi, h⟩ => by
    obtain ⟨r2, hr2, a⟩ := lt_yes hs l g r' h
    exact ⟨r2, hr2, fun x hx => ⟨r', hp, hi, a x hx⟩⟩
theorem foldL_snoc (o : Int) (g : Fm) : ∀ (l : List Fm) (f : Fm), foldL o f (l ++ [g]) = fPair o (foldL o f l) g
  | [], f => rfl
  | x :: l, f => foldL_snoc o g l _
theorem lv_yes {ws : List Wd} {n : Nat} {f : Fm} {l : List Fm} {p : Nat} {r : Out Fm} (h : Lv ws n f l (.at p) r) (hs : IsS ws p (sgOf n)) : ∃ r', GF ws (.lev (n + 1)) (.at (p + 1)) r' ∧ ∀ g, r'.is g → Lv ws n f (l ++ [g]) r'.pos r := by
  unfold Lv at h ⊢
  by_cases h1 : n = 1
  · subst h1
    rw [if_pos rfl] at h
    simp only [if_pos]
    exact lt_yes hs l f r h
  · rw [if_neg h1] at h
    simp only [if_neg h1]
    obtain ⟨r', hr', a⟩ := gl_yes h hs
    exact ⟨r', hr', fun g hg => by rw [foldL_snoc]; exact a g hg⟩
/-- a list's fold -/
def foR (o : Int) : List Fm → Fm
  | [] => fTrue
  | f :: l => foldR o f l
def foL (o : Int) : List Fm → Fm
  | [] => fTrue
  | f :: l => foldL o f l
abbrev fget (L : List Fm) (i : Nat) : Fm := L.getD i fTrue
theorem fget_drop (L : List Fm) (i : Nat) (h : i < L.length) : L.drop i = fget L i :: L.drop (i + 1) := by
  rw [List.drop_eq_getElem_cons h, fget, List.getD_eq_getElem?_getD, List.getElem?_eq_getElem h]
  rfl
theorem fget_take (L : List Fm) (i : Nat) (h : i < L.length) : L.take (i + 1) = L.take i ++ [fget L i] := by
  rw [List.take_succ_eq_append_getElem h, fget, List.getD_eq_getElem?_getD, List.getElem?_eq_getElem h]
  rfl
theorem foR_last (o : Int) (L : List Fm) (i : Nat) (h : i + 1 = L.length) : foR o (L.drop i) = fget L i := by
  rw [fget_drop L i (by omega), List.drop_of_length_le (by omega)]
  rfl
theorem foR_step (o : Int) (L : List Fm) (i : Nat) (h : i + 1 < L.length) : foR o (L.drop i) = fPair o (fget L i) (foR o (L.drop (i + 1))) := by
  rw [fget_drop L i (by omega), fget_drop L (i + 1) h]
  rfl
theorem foL_first (o : Int) (L : List Fm) (h : 0 < L.length) : foL o (L.take 1) = fget L 0 := by
  cases L with
  | nil => simp at h
  | cons f l => rfl
theorem foL_step (o : Int) (L : List Fm) (i : Nat) (h0 : 0 < i) (h : i < L.length) : foL o (L.take (i + 1)) = fPair o (foL o (L.take i)) (fget L i) := by
  rw [fget_take L i h]
  cases L with
  | nil => simp at h
  | cons f l =>
    obtain ⟨j, rfl⟩ : ∃ j, i = j + 1 := ⟨i - 1, by omega⟩
    rw [List.take_succ_cons]
    exact foldL_snoc o _ _ _
theorem fold_of {n : Nat} {f : Fm} {l : List Fm} : fold n f l = if n = 1 then foR 5 (f :: l) else foL (opOf n) (f :: l) := by
  by_cases h1 : n = 1
  · subst h1; rfl
  · rw [fold_L h1, if_neg h1]; rfl
/- quantifiers -/
theorem quants_snoc (o : Int) (x : ByteArray) (f : Fm) : ∀ l : List ByteArray, quants o (l ++ [x]) f = quants o l (fQ o x f)
  | [] => rfl
  | y :: l => congrArg (fQ o y) (quants_snoc o x f l)
/-- l: the names that have been read -/
def Qv (ws : List Wd) (o : Int) (l : List ByteArray) (P : Pos) (r : Out Fm) : Prop := ∃ R, GQ ws o P R ∧ r.pos = R.pos ∧ ∀ f, R.is f → r.is (quants o l f)
theorem qv_none {ws : List Wd} {o : Int} {l : List ByteArray} {P : Pos} {r : Out Fm} (h : Qv ws o l P r) (hn : ¬ P.kinds ws 0) : r.pos = P.ref 71 ∧ ∀ f, r.is f := by
  obtain ⟨R, hR, hp, hi⟩ := h
  obtain ⟨a, b⟩ := gq_none hR hn
  refine ⟨hp.trans a, fun f => ?_⟩
  rw [a] at hp
  cases r with
  | bad e q => exact is_bad
  | ok x q => cases P <;> cases hp
theorem qv_more {ws : List Wd} {o : Int} {l : List ByteArray} {p : Nat} {x : ByteArray} {r : Out Fm} (h : Qv ws o l (.at p) r) (hx : IsN ws p x) (hc : IsS ws (p + 1) kComma) : Qv ws o (l ++ [x]) (.at (p + 2)) r := by
  obtain ⟨R, hR, hp, hi⟩ := h
  obtain ⟨R', hR', hp', hi'⟩ := gq_more hR hx hc
  exact ⟨R', hR', hp.trans hp', fun f hf => by rw [quants_snoc]; exact hi _ (hi' f hf)⟩
theorem qv_last {ws : List Wd} {o : Int} {l : List ByteArray} {p : Nat} {x : ByteArray} {r : Out Fm} (h : Qv ws o l (.at p) r) (hx : IsN ws p x) (hc : ¬ IsS ws (p + 1) kComma) {P' : Pos} (hP : (Pos.at (p + 1)).need ws kDot P') : ∃ r', GF ws .un P' r' ∧ r.pos = r'.pos ∧ ∀ f, r'.is f → r.is (quants o (l ++ [x]) f) := by
  obtain ⟨R, hR, hp, hi⟩ := h
  obtain ⟨R', hR', hp', hi'⟩ := gq_last hR hx hc P' hP
  exact ⟨R', hR', hp.trans hp', fun f hf => by rw [quants_snoc]; exact hi _ (hi' f hf)⟩
/- rows of formulas -/
structure FV where
  o : Int
  x : ByteArray
  m : Int
  bo : Option Addr
  n1 : Nat
  c1 : Nat
  ao : Option Addr
  n : Nat
  c : Nat
instance : Inhabited FV := ⟨⟨0, emp, 0, none, 0, 0, none, 0, 0⟩⟩
def FV.cells (e : FV) : List Value := [.int .i64 e.o, .string e.x, .int .i64 e.m, .slice e.bo e.n1 e.c1, .slice e.ao e.n e.c]
abbrev FV.arr (e : FV) : Array Value := #[.int .i64 e.o, .string e.x, .int .i64 e.m, .slice e.bo e.n1 e.c1, .slice e.ao e.n e.c]
abbrev FV.rd (P : Nat → Prop) (W : World) (f : Fm) (e : FV) : Prop := RdFn P W f (.int .i64 e.o) (.string e.x) (.int .i64 e.m) (.slice e.bo e.n1 e.c1) (.slice e.ao e.n e.c)
abbrev eget (E : List FV) (i : Nat) : FV := E.getD i default
/-- a row's trees -/
structure FVs (P : Nat → Prop) (W : World) (L : List Fm) (E : List FV) : Prop where
  len : L.length = E.length
  each : ∀ i, i < L.length → FV.rd P W (fget L i) (eget E i)
theorem FVs.keep {P : Nat → Prop} {W W' : World} {L : List Fm} {E : List FV} (h : FVs P W L E) (hb : Hi P W W') : FVs P W' L E := ⟨h.len, fun i hi => (h.each i hi).keep hb⟩
theorem FVs.low {P P' : Nat → Prop} {W : World} {L : List Fm} {E : List FV} (h : FVs P W L E) (hb : ∀ k, k < W.heap.size → P k → P' k) : FVs P' W L E := ⟨h.len, fun i hi => (h.each i hi).low hb⟩
theorem FVs.one {P : Nat → Prop} {W : World} {f : Fm} {e : FV} (h : FV.rd P W f e) : FVs P W [f] [e] := ⟨rfl, fun i hi => by
  obtain rfl : i = 0 := by simp at hi; omega
  exact h⟩
theorem FVs.snoc {P : Nat → Prop} {W : World} {L : List Fm} {E : List FV} {f : Fm} {e : FV} (h : FVs P W L E) (k : FV.rd P W f e) : FVs P W (L ++ [f]) (E ++ [e]) := by
  have hl := h.len
  refine ⟨by simp [hl], fun i hi => ?_⟩
  rw [List.length_append, List.length_singleton] at hi
  by_cases hlt : i < L.length
  · have := h.each i hlt
    rw [fget, eget, List.getD_eq_getElem?_getD, List.getD_eq_getElem?_getD, List.getElem?_append_left hlt, List.getElem?_append_left (by omega), ← List.getD_eq_getElem?_getD, ← List.getD_eq_getElem?_getD]
    exact this
  · obtain rfl : i = L.length := by omega
    rw [fget, eget, List.getD_eq_getElem?_getD, List.getD_eq_getElem?_getD, List.getElem?_append_right (Nat.le_refl _), hl, List.getElem?_append_right (Nat.le_refl _), Nat.sub_self]
    exact k
theorem mkF2r {P : Nat → Prop} {g : Nat} {W : World} {x y : Fm} {c0 c1 c2 c3 c4 d0 d1 d2 d3 d4 : Value} {t : TypeId} (h : RdFn P W x c0 c1 c2 c3 c4) (k : RdFn P W y d0 d1 d2 d3 d4) (hR : Rb W g #[c0, c1, c2, c3, c4, d0, d1, d2, d3, d4] t) (hb : P g) (o m : Int) (nm : ByteArray) (hi : I64 o ∧ I64 m ∧ Sz nm.size) : RdFn P W (.mk o nm m [] [x, y]) (.int .i64 o) (.string nm) (.int .i64 m) (.slice none 0 0) (.slice (some ⟨g, 0, none⟩) 2 2) := by
  rw [RdFn]
  refine ⟨rfl, rfl, rfl, hi, ⟨none, 0, rfl, Nat.le_refl _, by decide, by rw [RdTnL]; trivial⟩, some ⟨g, 0, none⟩, 2, rfl, Nat.le_refl _, by decide, ?_⟩
  rw [RdFnL, RdFnL, RdFnL]
  exact ⟨⟨g, 0, c0, c1, c2, c3, c4, rfl, hb, (Array.getElem?_eq_some_iff.1 hR).1, (txcell hR 0 _ rfl).1, (txcell hR 1 _ rfl).1, (txcell hR 2 _ rfl).1, (txcell hR 3 _ rfl).1, (txcell hR 4 _ rfl).1, h⟩, ⟨g, 0, d0, d1, d2, d3, d4, rfl, hb, (Array.getElem?_eq_some_iff.1 hR).1, (txcell hR 5 _ rfl).1, (txcell hR 6 _ rfl).1, (txcell hR 7 _ rfl).1, (txcell hR 8 _ rfl).1, (txcell hR 9 _ rfl).1, k⟩, trivial⟩
theorem mkF1r {P : Nat → Prop} {g : Nat} {W : World} {f : Fm} {c0 c1 c2 c3 c4 : Value} {t : TypeId} (h : RdFn P W f c0 c1 c2 c3 c4) (hR : Rb W g #[c0, c1, c2, c3, c4] t) (hb : P g) (o m : Int) (nm : ByteArray) (hi : I64 o ∧ I64 m ∧ Sz nm.size) : RdFn P W (.mk o nm m [] [f]) (.int .i64 o) (.string nm) (.int .i64 m) (.slice none 0 0) (.slice (some ⟨g, 0, none⟩) 1 1) := by
  rw [RdFn]
  refine ⟨rfl, rfl, rfl, hi, ⟨none, 0, rfl, Nat.le_refl _, by decide, by rw [RdTnL]; trivial⟩, some ⟨g, 0, none⟩, 1, rfl, Nat.le_refl _, by decide, ?_⟩
  rw [RdFnL, RdFnL]
  exact ⟨⟨g, 0, c0, c1, c2, c3, c4, rfl, hb, (Array.getElem?_eq_some_iff.1 hR).1, (txcell hR 0 _ rfl).1, (txcell hR 1 _ rfl).1, (txcell hR 2 _ rfl).1, (txcell hR 3 _ rfl).1, (txcell hR 4 _ rfl).1, h⟩, trivial⟩
end Go.Proofs.YtabfhdmcljdjhaaGreatDoor.Gl
/- The document's reader: a row of formulas of our own. -/
namespace Go.Proofs.YtabfhdmcljdjhaaGreatDoor.Gl
open Go.RowKit
set_option linter.unusedVariables false
set_option linter.unusedSimpArgs false

/-- all but one block is kept -/
abbrev KpB (r : Option Nat) (w w' : World) : Prop := w.grownBy w' r
/-- an append onto a row of our own, and where the answer lies -/
theorem run_append_where {P : Program} {w : World} (base : Nat) (t ty e : TypeId) (i : TypeInfo) (z : Value) (size bytes : Nat) (ht : P.underlying t = some (.slice e)) (hi : P.info? e = some i) (hz : i.zero = some z)
    (hsize : i.size = size) (hby : i.bytes = bytes) (hzs : z.cells.size = size) (hsz : 0 < size)
    (v : Value) (n : Nat) (xs : List Value) (hown : w.ownsRow base e size v n xs)
    (a : Addr) (m c : Nat) (news : List Value) (hl : news.length = m * size) (hnews : ∀ j u, news[j]? = some u → w.cell? (a.add j) = some u) (h1 : ∀ u ∈ news, u.oneCell' = true)
    (h63 : n + m ≤ maxLen) (hbytes : (n + m) * bytes ≤ 140737488355328) (hbase : base ≤ w.heap.size) :
    ∃ v' w', (Builtin.append_ #[t, t] ty #[v, .slice (some a) m c]).run P w = .ok v' w' ∧ w'.ownsRow base e size v' (n + m) (xs ++ news) ∧ KpB v.ownBlock w w' ∧ ∀ q, v'.ownBlock = some q → v.ownBlock = some q ∨ w.heap.size ≤ q := by
  obtain ⟨v', w', hr, h2, h3, h4⟩ := run_append_own (P := P) w base t ty e i z size bytes ht hi hz hsize hby hzs hsz v n xs hown a m c news hl hnews h1 h63 hbytes hbase
  refine ⟨v', w', hr, h2, h3, fun q hq => ?_⟩
  have hsmall : n + m ≤ 9223372036854775807 := by simp only [maxLen] at h63; omega
  rcases hown.2 with ⟨rfl, rfl⟩ | ⟨g, cap, cur, rfl, hbg, hg, hnc, hcm, hcs, htake⟩
  · rcases Nat.eq_zero_or_pos m with hm | hm
    · rw [h4.2 ⟨rfl, hm⟩] at hq
      simp [Value.ownBlock] at hq
    · have hr' := run_append_nil (P := P) w t ty e i z ht hi hz a m c news (by rw [hsize]; exact hl) hnews hm (by omega) (by rw [hby]; have := hbytes; simp only [Nat.zero_add] at this; omega)
      rw [hr'] at hr
      simp only [Result.ok.injEq] at hr
      obtain ⟨rfl, -⟩ := hr
      simp only [Value.ownBlock, Option.some.injEq] at hq
      omega
  · by_cases hroom : n + m ≤ cap
    · have hr' := run_append_room (P := P) w t ty e i ht hi g n cap cur hg a m c news (by rw [hsize]; exact hl) hnews h1 hroom (by rw [hsize, hl, hcs, ← Nat.add_mul]; exact Nat.mul_le_mul_right _ hroom)
      rw [hr'] at hr
      simp only [Result.ok.injEq] at hr
      obtain ⟨rfl, -⟩ := hr
      exact .inl hq
    · have hr' := run_append_grow (P := P) w t ty e i z ht hi hz ⟨g, 0, none⟩ n cap xs (by rw [hsize]; exact hown.1) (hown.cells (g := g) rfl) a m c news (by rw [hsize]; exact hl) hnews (by omega) (by omega) (growslice_fits (by omega) (by rw [hby]; exact hbytes))
      rw [hr'] at hr
      simp only [Result.ok.injEq] at hr
      obtain ⟨rfl, -⟩ := hr
      simp only [Value.ownBlock, Option.some.injEq] at hq
      omega
abbrev cellsF (E : List FV) : List Value := E.flatMap FV.cells
theorem flatF_get (cs : List FV) (i r : Nat) (hr : r < 5) (hi : i < cs.length) : (cellsF cs)[i * 5 + r]? = (eget cs i).cells[r]? := by
  induction cs generalizing i with
  | nil => simp at hi
  | cons x cs ih =>
    have hx : x.cells.length = 5 := rfl
    rw [cellsF, List.flatMap_cons]
    cases i with
    | zero =>
      rw [Nat.zero_mul, Nat.zero_add, List.getElem?_append_left (by omega)]
      rfl
    | succ i =>
      rw [List.getElem?_append_right (by omega), hx, show (i + 1) * 5 + r - 5 = i * 5 + r by omega]
      exact ih i (by simpa using hi)
theorem ownsF_cell {w : World} {base n : Nat} {t : TypeId} {v : Value} {E : List FV} (h : w.ownsRow base t 5 v n (cellsF E)) (hE : E.length = n) (i : Nat) (hi : i < n) : ∃ g cap, v = .slice (some ⟨g, 0, none⟩) n cap ∧ n ≤ cap ∧ cap ≤ 9223372036854775807 ∧ base ≤ g ∧ g < w.heap.size ∧ ∀ r, r < 5 → w.cell? ⟨g, i * 5 + r, none⟩ = (eget E i).cells[r]? := by
  have h' := h
  obtain ⟨hl, hv⟩ := h'
  rcases hv with ⟨rfl, hz⟩ | ⟨g, cap, cur, rfl, hg, hh, hnc, hcm, hcs, hx⟩
  · omega
  · exact ⟨g, cap, rfl, hnc, hcm, hg, (Array.getElem?_eq_some_iff.1 hh).1, fun r hr => by rw [h.cellAt (i * 5 + r) (by omega), flatF_get E i r hr (by omega)]⟩
theorem Tryz.infoFm : (Tryz.prog.info? 26).map (fun i => (i.zero, i.size, i.bytes)) = some (some (.agg #[.int .i64 0, .string emp, .int .i64 0, .slice none 0 0, .slice none 0 0]), 5, 80) := by kernel_rfl
theorem wp_pushF {ops : Array Oper} {rest : List Oper} {o : Oper} {a : Act} {Q : Exit → Act → World → Prop} (Wc : World) (base : Nat) (hgd : o.guard = none) (s x : Operand)
    (ho : o.op = .call { callee := .builtin .append, args := #[s, x], argTypes := #[24, 24] }) (v : Value) (n : Nat) (O : List FV) (hs : a.eval s = v) (g : Nat) (d : FV) (hx : a.eval x = .slice (some ⟨g, 0, none⟩) 1 1)
    (hown : Wc.ownsRow base 26 5 v n (cellsF O)) (hR : Rb Wc g d.arr 26) (hbase : base ≤ Wc.heap.size) (hk : n ≤ 8192)
    (h : ∀ v' w', w'.ownsRow base 26 5 v' (n + 1) (cellsF (O ++ [d])) → KpB v.ownBlock Wc w' → (∀ q, v'.ownBlock = some q → v.ownBlock = some q ∨ Wc.heap.size ≤ q) → wpList Tryz.prog ops Q rest (a.put o.dst v') w') : wpList Tryz.prog ops Q (o :: rest) a Wc := by
  obtain ⟨i0, hi, hz0, hz1, hz2⟩ := info_parts Tryz.infoFm
  obtain ⟨v', w', hr, h2, h3, h4⟩ := run_append_where (P := Tryz.prog) base 24 o.type 26 i0 _ 5 80 Tryz.underlying24 hi hz0 hz1 hz2 rfl (by decide) v n (cellsF O) hown ⟨g, 0, none⟩ 1 1 d.cells rfl (by
    intro j u hj
    have hj5 : j < 5 := (List.getElem?_eq_some_iff.1 hj).1
    have key : Wc.cell? ⟨g, j, none⟩ = some u := by
      rcases (show j = 0 ∨ j = 1 ∨ j = 2 ∨ j = 3 ∨ j = 4 by omega) with rfl | rfl | rfl | rfl | rfl
      all_goals
        simp only [FV.cells] at hj
        exact (txcell hR _ u (by simpa using hj)).1
    rcases Nat.eq_zero_or_pos j with rfl | hp
    · exact key
    · simpa [Addr.add, Nat.ne_of_gt hp] using key) (by
    intro u hu
    simp only [FV.cells, List.mem_cons, List.not_mem_nil, or_false] at hu
    rcases hu with rfl | rfl | rfl | rfl | rfl <;> rfl) (by unfold maxLen; omega) (by omega) hbase
  refine wpList_plain hgd fun _ hK => ?_
  unfold Oper.wp execOp
  simp only [ho, resolve, invoke, builtin, Sem.run_bind, Sem.run_pure, Result.andThen_ok, List.map_toArray, List.map_cons, List.map_nil, hs, hx, hr]
  exact hK _ _ (h v' w' (by rw [cellsF, List.flatMap_append]; simpa [cellsF] using h2) h3 h4)
/-- but one block of ours, all that was is kept -/
theorem Bux.kp {b : Nat} {r : Option Nat} {W0 w w' : World} (h : Bux b W0 w) (hk : KpB r w w') (hr : ∀ q, r = some q → W0.heap.size ≤ q) : Bux b W0 w' :=
  ⟨hk.os.trans h.os, hk.tape.trans h.tape, hk.output.trans h.output, Nat.le_trans h.size hk.size, fun k hk0 hne => (hk.block k (Nat.lt_of_lt_of_le hk0 h.size) (fun e => by have := hr k e.symm; omega)).trans (h.block k hk0 hne)⟩
theorem Ds.kp {X : Rx} {w w' : World} {P : Pos} {r : Option Nat} (h : Ds X w P) (hk : KpB r w w') (hr : ∀ q, r = some q → X.W.heap.size ≤ q ∧ q ≠ X.b) : Ds X w' P := by
  have hB : Below X.W.heap.size w w' := ⟨hk.os, hk.tape, hk.output, hk.size, fun k hk0 => hk.block k (by have := h.below.size; omega) (fun e => by have := (hr k e.symm).1; omega)⟩
  exact ⟨h.words, h.new, h.below.trans hB, h.at'.same (hk.block X.b h.lt (fun e => (hr _ e.symm).2 rfl))⟩
theorem Rb.kp {w w' : World} {B : Nat} {vs : Array Value} {t : TypeId} {r : Option Nat} (h : Rb w B vs t) (hk : KpB r w w') (hne : some B ≠ r) : Rb w' B vs t := (hk.block B (Array.getElem?_eq_some_iff.1 h).1 hne).trans h
theorem Hi.kp {P : Nat → Prop} {r : Option Nat} {w w' : World} (hk : KpB r w w') (hP : ∀ k, P k → some k ≠ r) : Hi P w w' := ⟨hk.size, fun k h1 h2 => hk.block k h2 (hP k h1)⟩
end Go.Proofs.YtabfhdmcljdjhaaGreatDoor.Gl
/- The document's reader: pair; what a fold keeps. -/
namespace Go.Proofs.YtabfhdmcljdjhaaGreatDoor.Gl
open Go.RowKit
set_option linter.unusedVariables false
set_option linter.unusedSimpArgs false

theorem KpB.refl (r : Option Nat) (w : World) : KpB r w w := ⟨rfl, rfl, rfl, Nat.le_refl _, fun _ _ _ => rfl⟩
theorem KpB.of {r : Option Nat} {w w' : World} (h : Below w.heap.size w w') : KpB r w w' := ⟨h.os, h.tape, h.output, h.size, fun k hk _ => h.block k hk⟩
theorem KpB.trans {r : Option Nat} {w w1 w2 : World} (h : KpB r w w1) (k : KpB r w1 w2) : KpB r w w2 :=
  ⟨k.os.trans h.os, k.tape.trans h.tape, k.output.trans h.output, Nat.le_trans h.size k.size, fun i hi hn => (k.block i (Nat.lt_of_lt_of_le hi h.size) hn).trans (h.block i hi hn)⟩
theorem KpB.setB {B : Nat} {w w' : World} (h : KpB (some B) w w') (i : Nat) (v : Value) : KpB (some B) w (w'.setCell ⟨B, i, none⟩ v) :=
  ⟨h.os, h.tape, h.output, Nat.le_trans h.size ((Below.refl 0 w').setCell (p := ⟨B, i, none⟩) (Nat.zero_le _) v).size, fun k hk hne => (Below.heap_setCell _ _ _ k (fun e => hne (by rw [e]))).trans (h.block k hk hne)⟩
theorem KpB.st5 {B : Nat} {w w' : World} (h : KpB (some B) w w') (v0 v1 v2 v3 v4 : Value) : KpB (some B) w (st5 w' B v0 v1 v2 v3 v4) := ((((h.setB 0 v0).setB 1 v1).setB 2 v2).setB 3 v3).setB 4 v4
theorem op_fits (n : Nat) : I64 (opOf n) := by
  unfold opOf
  split <;> decide
abbrev pairV (op : Int) (g : Nat) : FV := ⟨op, emp, 0, none, 0, 0, some ⟨g, 0, none⟩, 2, 2⟩
abbrev FV.two (a b : FV) : Array Value := #[.int .i64 a.o, .string a.x, .int .i64 a.m, .slice a.bo a.n1 a.c1, .slice a.ao a.n a.c, .int .i64 b.o, .string b.x, .int .i64 b.m, .slice b.bo b.n1 b.c1, .slice b.ao b.n b.c]
set_option maxRecDepth 100000 in
set_option maxHeartbeats 4000000 in
theorem dpair_at (o : Int) (a b : FV) (w : World) : Calls Tryz.prog 41 #[.int .i64 o, .agg a.arr, .agg b.arr] w fun e w' => ∃ g, e = .returned (.agg (pairV o g).arr) ∧ w.heap.size ≤ g ∧ Rb w' g (a.two b) 26 ∧ Below w.heap.size w w' := by
  have hA := (((rb_new w a.arr 26).keep (bal _ (.cells b.arr 26))).keep (bal _ (.cells zF 26)))
  have hB := (rb_new (w.alloc (.cells a.arr 26)) b.arr 26).keep (bal _ (.cells zF 26))
  have hC4 := (rb_new ((w.alloc (.cells a.arr 26)).alloc (.cells b.arr 26)) zF 26).keep (bal _ (.cells (a.two b) 26))
  have hE := (rb_new ((w.alloc (.cells a.arr 26)).alloc (.cells b.arr 26)) #[.int .i64 o, .string emp, .int .i64 0, .slice none 0 0, .slice (some ⟨w.heap.size + 1 + 1 + 1, 0, none⟩) 2 2] 26).keep (bal _ (.cells (a.two b) 26))
  have hD := rb_new (((w.alloc (.cells a.arr 26)).alloc (.cells b.arr 26)).alloc (.cells #[.int .i64 o, .string emp, .int .i64 0, .slice none 0 0, .slice (some ⟨w.heap.size + 1 + 1 + 1, 0, none⟩) 2 2] 26)) (a.two b) 26
  have hb4 : Below w.heap.size w ((((w.alloc (.cells a.arr 26)).alloc (.cells b.arr 26)).alloc (.cells #[.int .i64 o, .string emp, .int .i64 0, .slice none 0 0, .slice (some ⟨w.heap.size + 1 + 1 + 1, 0, none⟩) 2 2] 26)).alloc (.cells (a.two b) 26)) := bta (bta (bta (bal w _) _) _) _
  simp only [World.size_alloc] at hB hC4 hD hE
  obtain ⟨a0, -⟩ := txcell hA 0 _ rfl
  obtain ⟨a1, -⟩ := txcell hA 1 _ rfl
  obtain ⟨a2, -⟩ := txcell hA 2 _ rfl
  obtain ⟨a3, -⟩ := txcell hA 3 _ rfl
  obtain ⟨a4, -⟩ := txcell hA 4 _ rfl
  obtain ⟨b0, -⟩ := txcell hB 0 _ rfl
  obtain ⟨b1, -⟩ := txcell hB 1 _ rfl
  obtain ⟨b2, -⟩ := txcell hB 2 _ rfl
  obtain ⟨b3, -⟩ := txcell hB 3 _ rfl
  obtain ⟨b4, -⟩ := txcell hB 4 _ rfl
  obtain ⟨c0, f0⟩ := txcell hC4 0 _ rfl
  obtain ⟨c1, f1⟩ := txcell hC4 1 _ rfl
  obtain ⟨c2, f2⟩ := txcell hC4 2 _ rfl
  obtain ⟨c3, f3⟩ := txcell hC4 3 _ rfl
  obtain ⟨c4, f4⟩ := txcell hC4 4 _ rfl
  obtain ⟨k0, -⟩ := txcell hE 0 _ rfl
  obtain ⟨k1, -⟩ := txcell hE 1 _ rfl
  obtain ⟨k2, -⟩ := txcell hE 2 _ rfl
  obtain ⟨k3, -⟩ := txcell hE 3 _ rfl
  obtain ⟨k4, -⟩ := txcell hE 4 _ rfl
  go_enter Tryz.func41, Tryz.ntmps41
  go_wp2
  exact bodyPost_ret (v := .agg #[.int .i64 o, .string emp, .int .i64 0, .slice none 0 0, .slice (some ⟨w.heap.size + 1 + 1 + 1, 0, none⟩) 2 2]) (by simp [results, Tryz.results41, go_sem, k0, k1, k2, k3, k4]) rfl ⟨w.heap.size + 1 + 1 + 1, rfl, by omega, hD, hb4⟩
end Go.Proofs.YtabfhdmcljdjhaaGreatDoor.Gl
