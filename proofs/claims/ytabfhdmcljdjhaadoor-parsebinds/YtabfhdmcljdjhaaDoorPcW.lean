/- What the laws over brackets call: right, joined; formulas' values by what they are. -/
import Derived.Test.YtabfhdmcljdjhaaDoorPcV
import Derived.Test.YtabfhdmcljdjhaaDoorNdV
import Derived.Test.YtabfhdmcljdjhaaDoorRgP
namespace Go.Proofs.YtabfhdmcljdjhaaDoor.Gl
open Go.RowKit
set_option linter.unusedVariables false
set_option linter.unusedSimpArgs false

/-- v is the formula F in w -/
def FmE (F : Fm) (v : Value) (w : World) : Prop := ∃ o xs m bo n1 c1 ao n c, v = .agg #[.int .i64 o, .string xs, .int .i64 m, .slice bo n1 c1, .slice ao n c] ∧ RdF w F (.int .i64 o) (.string xs) (.int .i64 m) (.slice bo n1 c1) (.slice ao n c)
/-- v is a list of formulas in w -/
def SlE (l : List Fm) (v : Value) (w : World) : Prop := ∃ ao cap, v = .slice ao l.length cap ∧ l.length ≤ cap ∧ Sz cap ∧ RdFL w l ao 0
theorem FmE.fmv {F : Fm} {v : Value} {w : World} (h : FmE F v w) : FmV w F v := by
  obtain ⟨o, xs, m, bo, n1, c1, ao, n, c, e, hr⟩ := h
  exact ⟨_, _, _, _, _, e, hr⟩
theorem FmE.keep {F : Fm} {v : Value} {w w' : World} (h : FmE F v w) (hB : Below w.heap.size w w') : FmE F v w' := by
  obtain ⟨o, xs, m, bo, n1, c1, ao, n, c, e, hr⟩ := h
  exact ⟨o, xs, m, bo, n1, c1, ao, n, c, e, hr.keep hB⟩
theorem rdfl_keep {W W' : World} (hb : Below W.heap.size W W') (ao : Option Addr) : ∀ (l : List Fm) (j : Nat), RdFL W l ao j → RdFL W' l ao j := by
  intro l
  induction l with
  | nil => intro j _; rw [RdFL]; trivial
  | cons t r ih =>
    intro j h
    rw [RdFL] at h ⊢
    obtain ⟨⟨g, of, d0, d1, d2, d3, d4, e, hg, k0, k1, k2, k3, k4, hr⟩, hrest⟩ := h
    have hc : ∀ i, W'.cell? ⟨g, i, none⟩ = W.cell? ⟨g, i, none⟩ := fun i => hb.cell (p := ⟨g, i, none⟩) hg
    exact ⟨⟨g, of, d0, d1, d2, d3, d4, e, Nat.lt_of_lt_of_le hg hb.size, (hc _).trans k0, (hc _).trans k1, (hc _).trans k2, (hc _).trans k3, (hc _).trans k4, hr.keep hb⟩, ih _ hrest⟩
theorem SlE.keep {l : List Fm} {v : Value} {w w' : World} (h : SlE l v w) (hB : Below w.heap.size w w') : SlE l v w' := by
  obtain ⟨ao, cap, e, h1, h2, h3⟩ := h
  exact ⟨ao, cap, e, h1, h2, rdfl_keep hB _ _ _ h3⟩
/-- a formula's five cells -/
structure C5 where
  o : Int
  xs : ByteArray
  m : Int
  bo : Option Addr
  n1 : Nat
  c1 : Nat
  ao : Option Addr
  n : Nat
  c : Nat
def C5.cells (x : C5) : List Value := [.int .i64 x.o, .string x.xs, .int .i64 x.m, .slice x.bo x.n1 x.c1, .slice x.ao x.n x.c]
def C5.val (x : C5) : Value := .agg #[.int .i64 x.o, .string x.xs, .int .i64 x.m, .slice x.bo x.n1 x.c1, .slice x.ao x.n x.c]
def C5.Is (w : World) (F : Fm) (x : C5) : Prop := RdF w F (.int .i64 x.o) (.string x.xs) (.int .i64 x.m) (.slice x.bo x.n1 x.c1) (.slice x.ao x.n x.c)
theorem FmE.c5 {F : Fm} {v : Value} {w : World} (h : FmE F v w) : ∃ x : C5, v = .agg #[.int .i64 x.o, .string x.xs, .int .i64 x.m, .slice x.bo x.n1 x.c1, .slice x.ao x.n x.c] ∧ x.Is w F := by
  obtain ⟨o, xs, m, bo, n1, c1, ao, n, c, e, hr⟩ := h
  exact ⟨⟨o, xs, m, bo, n1, c1, ao, n, c⟩, e, hr⟩
theorem five_get (ws : List C5) (i r : Nat) (hr : r < 5) (x : C5) (hi : ws[i]? = some x) : (ws.flatMap C5.cells)[i * 5 + r]? = x.cells[r]? := by
  induction ws generalizing i with
  | nil => simp at hi
  | cons y ws ih =>
    have hy : y.cells.length = 5 := rfl
    rw [List.flatMap_cons]
    cases i with
    | zero =>
      simp at hi
      subst hi
      rw [Nat.zero_mul, Nat.zero_add, List.getElem?_append_left (by omega)]
    | succ i =>
      rw [List.getElem?_append_right (by omega), hy, show (i + 1) * 5 + r - 5 = i * 5 + r by omega, ih i (by simpa using hi)]
/-- formulas laid in a row in new memory -/
theorem sle_new {W : World} {t : TypeId} (fs : List Fm) (xs : List C5) (hl : xs.length = fs.length) (h : ∀ (i : Nat) (F : Fm) (x : C5), fs[i]? = some F → xs[i]? = some x → x.Is W F) (hz : fs.length ≤ 1000) : SlE fs (.slice (some ⟨W.heap.size, 0, none⟩) fs.length fs.length) (W.alloc (.cells (xs.flatMap C5.cells).toArray t)) := by
  refine ⟨_, _, rfl, Nat.le_refl _, by unfold Sz; omega, ?_⟩
  have hR := rb_new W (xs.flatMap C5.cells).toArray t
  have hlt := (Array.getElem?_eq_some_iff.1 hR).1
  have key : ∀ (l : List Fm) (j : Nat), l = fs.drop j → RdFL (W.alloc (.cells (xs.flatMap C5.cells).toArray t)) l (some ⟨W.heap.size, 0, none⟩) j := by
    intro l
    induction l with
    | nil => intro j _; rw [RdFL]; trivial
    | cons F r ih =>
      intro j e
      have hF : fs[j]? = some F := by
        have := congrArg (·[0]?) e
        simpa [List.getElem?_drop] using this.symm
      have hj : j < xs.length := by rw [hl]; exact (List.getElem?_eq_some_iff.1 hF).1
      have hx : xs[j]? = some xs[j] := List.getElem?_eq_getElem hj
      have hc : ∀ r (hr : r < 5), (W.alloc (.cells (xs.flatMap C5.cells).toArray t)).cell? ⟨W.heap.size, 0 + j * 5 + r, none⟩ = (xs[j]).cells[r]? := fun r hr => by
        have h5 := five_get xs j r hr _ hx
        have hlen : r < (xs[j]).cells.length := hr
        rw [List.getElem?_eq_getElem hlen] at h5 ⊢
        refine (txcell hR _ _ ?_).1
        rw [Nat.zero_add]
        simpa using h5
      rw [RdFL]
      refine ⟨⟨W.heap.size, 0, _, _, _, _, _, rfl, hlt, hc 0 (by omega), hc 1 (by omega), hc 2 (by omega), hc 3 (by omega), hc 4 (by omega), RdF.keep (h j F _ hF hx) (bal W _)⟩, ih (j + 1) ?_⟩
      rw [← List.tail_drop, ← e]
      rfl
  exact key fs 0 rfl
/-- a formula out of a list of parts -/
theorem SlE.fm {l : List Fm} {v : Value} {w : World} (h : SlE l v w) (o : Int) (x : ByteArray) (ho : I64 o) (hx : Sz x.size) : ∃ ao cap, v = .slice ao l.length cap ∧ FmE (.mk o x 0 [] l) (.agg #[.int .i64 o, .string x, .int .i64 0, .slice none 0 0, .slice ao l.length cap]) w := by
  obtain ⟨ao, cap, e, h1, h2, h3⟩ := h
  refine ⟨ao, cap, e, _, _, _, _, _, _, _, _, _, rfl, ?_⟩
  rw [RdF]
  exact ⟨rfl, rfl, rfl, ⟨ho, by decide, hx⟩, ⟨none, 0, rfl, Nat.le_refl _, by decide, by rw [RdTL]; trivial⟩, ao, cap, rfl, h1, h2, h3⟩
set_option maxRecDepth 100000 in
set_option maxHeartbeats 2000000 in
theorem right_yes {s : ByteArray} {o : Option Fm} (h : An s o 0 0 0) (w : World) (hS : Sg w) (h64 : s.size ≤ 9223372036854775807) :
    Calls Tryd.prog 7 #[.string s] w fun e w' => ∃ v, e = .returned (.tuple #[v, .bool true]) ∧ FmA w.heap.size w' o v ∧ Below w.heap.size w w' := by
  have hR1 := rb_new w zF 27
  have FC : Hid (Calls Tryd.prog 9 #[.string s] (w.alloc (.cells zF 27)) fun e w' => ∃ v, e = .returned (.tuple #[v, .agg #[.int .i64 0, .int .i64 0, .int .i64 0]]) ∧ FmA (w.alloc (.cells zF 27)).heap.size w' o v ∧ Below (w.alloc (.cells zF 27)).heap.size (w.alloc (.cells zF 27)) w') := formula_any h (w.alloc (.cells zF 27)) (hS.alloc _) h64
  clear h hS h64
  go_enter Tryd.func7, Tryd.ntmps7
  go_wp2_with (fail)
  refine FC.out.mono ?_
  rintro e w2 ⟨v, rfl, ⟨op, xs, m, bo, n1, c1, lo, ln, lc, rfl, hno, hso⟩, hB2⟩
  have HNO := mkHid hno
  have HSO := mkHid hso
  clear hno hso
  go_wp2
  have hs2 := hB2.size
  rw [World.size_alloc] at hs2
  have hR4 := ((hR1.keep hB2).keep (bal w2 (.cells #[.int .i64 op, .string xs, .int .i64 m, .slice bo n1 c1, .slice lo ln lc] 27))).keep (bal _ (.cells zA 36))
  have hB4 := bta (bta (bt2 (bal w (.cells zF 27)) hB2) (.cells #[.int .i64 op, .string xs, .int .i64 m, .slice bo n1 c1, .slice lo ln lc] 27)) (.cells zA 36)
  have hX4 := (rb_new w2 #[.int .i64 op, .string xs, .int .i64 m, .slice bo n1 c1, .slice lo ln lc] 27).keep (bal _ (.cells zA 36))
  obtain ⟨x0, -⟩ := txcell hX4 0 _ rfl
  obtain ⟨x1, -⟩ := txcell hX4 1 _ rfl
  obtain ⟨x2, -⟩ := txcell hX4 2 _ rfl
  obtain ⟨x3, -⟩ := txcell hX4 3 _ rfl
  obtain ⟨x4, -⟩ := txcell hX4 4 _ rfl
  obtain ⟨r0, g0⟩ := txcell hR4 0 _ rfl
  obtain ⟨r1, g1⟩ := txcell hR4 1 _ rfl
  obtain ⟨r2, g2⟩ := txcell hR4 2 _ rfl
  obtain ⟨r3, g3⟩ := txcell hR4 3 _ rfl
  obtain ⟨r4, g4⟩ := txcell hR4 4 _ rfl
  have hBz := bel_st5 hB4 (Nat.le_refl _) (.int .i64 op) (.string xs) (.int .i64 m) (.slice bo n1 c1) (.slice lo ln lc)
  have hne : ∀ i, Ge (w.alloc (.cells zF 27)).heap.size i → i ≠ w.heap.size := fun i hi => by
    have h2 : (w.alloc (.cells zF 27)).heap.size ≤ i := hi
    rw [World.size_alloc] at h2
    omega
  have hHi := (Hi.of (P := Ge (w.alloc (.cells zF 27)).heap.size) (bta (bal w2 (.cells #[.int .i64 op, .string xs, .int .i64 m, .slice bo n1 c1, .slice lo ln lc] 27)) (.cells zA 36))).trans (Hi.st5 (B := w.heap.size) hne _ (.int .i64 op) (.string xs) (.int .i64 m) (.slice bo n1 c1) (.slice lo ln lc))
  go_region_with (fail)
  trace_state
  all_goals
    go_wp2
    have hRy := rb_five hR4 rfl (.int .i64 op) (.string xs) (.int .i64 m) (.slice bo n1 c1) (.slice lo ln lc)
    obtain ⟨k0, -⟩ := txcell hRy 0 _ rfl
    obtain ⟨k1, -⟩ := txcell hRy 1 _ rfl
    obtain ⟨k2, -⟩ := txcell hRy 2 _ rfl
    obtain ⟨k3, -⟩ := txcell hRy 3 _ rfl
    obtain ⟨k4, -⟩ := txcell hRy 4 _ rfl
    exact bodyPost_ret (v := .tuple #[.agg #[.int .i64 op, .string xs, .int .i64 m, .slice bo n1 c1, .slice lo ln lc], .bool true]) (by simp [results, Tryd.results7, go_sem, k0, k1, k2, k3, k4]) rfl ⟨_, rfl, ⟨_, _, _, _, _, _, _, _, _, rfl, HNO.out, fun f e => RdFn.low (fun i _ hi => Nat.le_trans (bal w _).size hi) _ _ _ _ _ _ (RdFn.keep (hHi.trans (Hi.of (Below.refl _ _).drew)) _ _ _ _ _ _ (HSO.out f e))⟩, hBz.drew⟩
set_option maxRecDepth 100000 in
set_option maxHeartbeats 2000000 in
theorem right_no {s : ByteArray} {o : Option Fm} {c b k : Nat} (h : An s o c b k) (hc : c ≠ 0) (w : World) (hS : Sg w) (h64 : s.size ≤ 9223372036854775807) :
    Calls Tryd.prog 7 #[.string s] w fun e w' => ∃ v, e = .returned (.tuple #[v, .bool false]) ∧ FmA w.heap.size w' o v ∧ Below w.heap.size w w' := by
  have hR1 := rb_new w zF 27
  have FC : Hid (Calls Tryd.prog 9 #[.string s] (w.alloc (.cells zF 27)) fun e w' => ∃ v, e = .returned (.tuple #[v, fau c b k]) ∧ FmA (w.alloc (.cells zF 27)).heap.size w' o v ∧ Below (w.alloc (.cells zF 27)).heap.size (w.alloc (.cells zF 27)) w') := formula_any h (w.alloc (.cells zF 27)) (hS.alloc _) h64
  have hc' : ((c : Int) == 0) = false := by rw [beq_eq_false_iff_ne]; omega
  clear h hS h64
  go_enter Tryd.func7, Tryd.ntmps7
  go_wp2_with (fail)
  refine FC.out.mono ?_
  rintro e w2 ⟨v, rfl, ⟨op, xs, m, bo, n1, c1, lo, ln, lc, rfl, hno, hso⟩, hB2⟩
  have HNO := mkHid hno
  have HSO := mkHid hso
  clear hno hso
  go_wp2
  have hs2 := hB2.size
  rw [World.size_alloc] at hs2
  have hR4 := ((hR1.keep hB2).keep (bal w2 (.cells #[.int .i64 op, .string xs, .int .i64 m, .slice bo n1 c1, .slice lo ln lc] 27))).keep (bal _ (.cells (flC c b k) 36))
  have hB4 := bta (bta (bt2 (bal w (.cells zF 27)) hB2) (.cells #[.int .i64 op, .string xs, .int .i64 m, .slice bo n1 c1, .slice lo ln lc] 27)) (.cells (flC c b k) 36)
  have hX4 := (rb_new w2 #[.int .i64 op, .string xs, .int .i64 m, .slice bo n1 c1, .slice lo ln lc] 27).keep (bal _ (.cells (flC c b k) 36))
  obtain ⟨x0, -⟩ := txcell hX4 0 _ rfl
  obtain ⟨x1, -⟩ := txcell hX4 1 _ rfl
  obtain ⟨x2, -⟩ := txcell hX4 2 _ rfl
  obtain ⟨x3, -⟩ := txcell hX4 3 _ rfl
  obtain ⟨x4, -⟩ := txcell hX4 4 _ rfl
  obtain ⟨r0, g0⟩ := txcell hR4 0 _ rfl
  obtain ⟨r1, g1⟩ := txcell hR4 1 _ rfl
  obtain ⟨r2, g2⟩ := txcell hR4 2 _ rfl
  obtain ⟨r3, g3⟩ := txcell hR4 3 _ rfl
  obtain ⟨r4, g4⟩ := txcell hR4 4 _ rfl
  have hBz := bel_st5 hB4 (Nat.le_refl _) (.int .i64 op) (.string xs) (.int .i64 m) (.slice bo n1 c1) (.slice lo ln lc)
  have hne : ∀ i, Ge (w.alloc (.cells zF 27)).heap.size i → i ≠ w.heap.size := fun i hi => by
    have h2 : (w.alloc (.cells zF 27)).heap.size ≤ i := hi
    rw [World.size_alloc] at h2
    omega
  have hHi := (Hi.of (P := Ge (w.alloc (.cells zF 27)).heap.size) (bta (bal w2 (.cells #[.int .i64 op, .string xs, .int .i64 m, .slice bo n1 c1, .slice lo ln lc] 27)) (.cells (flC c b k) 36))).trans (Hi.st5 (B := w.heap.size) hne _ (.int .i64 op) (.string xs) (.int .i64 m) (.slice bo n1 c1) (.slice lo ln lc))
  go_region_with (fail)
  trace_state
  all_goals
    go_wp2
    have hRy := rb_five hR4 rfl (.int .i64 op) (.string xs) (.int .i64 m) (.slice bo n1 c1) (.slice lo ln lc)
    obtain ⟨k0, -⟩ := txcell hRy 0 _ rfl
    obtain ⟨k1, -⟩ := txcell hRy 1 _ rfl
    obtain ⟨k2, -⟩ := txcell hRy 2 _ rfl
    obtain ⟨k3, -⟩ := txcell hRy 3 _ rfl
    obtain ⟨k4, -⟩ := txcell hRy 4 _ rfl
    exact bodyPost_ret (v := .tuple #[.agg #[.int .i64 op, .string xs, .int .i64 m, .slice bo n1 c1, .slice lo ln lc], .bool false]) (by simp [results, Tryd.results7, go_sem, k0, k1, k2, k3, k4]) rfl ⟨_, rfl, ⟨_, _, _, _, _, _, _, _, _, rfl, HNO.out, fun f e => RdFn.low (fun i _ hi => Nat.le_trans (bal w _).size hi) _ _ _ _ _ _ (RdFn.keep (hHi.trans (Hi.of (Below.refl _ _).drew)) _ _ _ _ _ _ (HSO.out f e))⟩, hBz.drew⟩
set_option maxHeartbeats 1000000 in
theorem joined_at (o : Int) (a : Option Addr) (n c : Nat) (w : World) :
    Calls Tryd.prog 8 #[.int .i64 o, .slice a n c] w fun e w' => e = .returned (.agg #[.int .i64 o, .string emp, .int .i64 0, .slice none 0 0, .slice a n c]) ∧ Below w.heap.size w w' := by
  go_enter Tryd.func8, Tryd.ntmps8
  go_wp2
  exact bodyPost_ret (v := .agg #[.int .i64 o, .string emp, .int .i64 0, .slice none 0 0, .slice a n c]) (by simp [results, Tryd.results8, go_sem]) rfl ⟨rfl, bal w _⟩
end Go.Proofs.YtabfhdmcljdjhaaDoor.Gl
