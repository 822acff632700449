/- RowLeast: the mathematics and the walk. -/
import Derived.Test.YthkabeaecfiinaaRwJ
import Derived.BigRegion
namespace Go.Proofs.Ythkabeaecfiinaa.Ro
open Go.RowKit
set_option linter.unusedVariables false

/-- 'append(v, x...)' where v is a row of our own, of numbers -/
theorem wp_joinZ {ops : Array Oper} {rest : List Oper} {o : Oper} {a : Act} {Q : Exit → Act → World → Prop} (Wc : World) (base : Nat) (hgd : o.guard = none) (s x : Operand)
    (ho : o.op = .call { callee := .builtin .append, args := #[s, x], argTypes := #[22, 22] }) (v : Value) (k : Nat) (O : List Int) (hs : a.eval s = v) (ao : Option Addr) (m c : Nat) (D : List Int) (hx : a.eval x = .slice ao m c)
    (hown : Wc.ownsRow base 3 1 v k (cellsZ O)) (hR : RdZ Wc ao m c D) (hbase : base ≤ Wc.heap.size) (hk : (k + m) * 8 ≤ 140737488355328)
    (h : ∀ v' w', w'.ownsRow base 3 1 v' (k + m) (cellsZ (O ++ D)) → Below base Wc w' → wpList Try.prog ops Q rest (a.put o.dst v') w') : wpList Try.prog ops Q (o :: rest) a Wc := by
  obtain ⟨i0, hi, hz0, hz1, hz2⟩ := info_parts Try.infoInt
  cases ao with
  | none =>
    have hc0 := hR.isnil rfl
    have hl := hR.lecap
    obtain rfl : c = 0 := hc0
    obtain rfl : m = 0 := by omega
    have hz : D = [] := List.length_eq_zero_iff.1 hR.eqlen
    subst hz
    refine wpList_append_own_none hgd s x 22 ho base 3 i0 1 Try.underlying22 hi v k (cellsZ O) hs hown hx ?_
    exact h v Wc (by simpa using hown) (Below.refl _ _)
  | some ad =>
    have hcells : ∀ j u, (cellsZ D)[j]? = some u → Wc.cell? (ad.add j) = some u := by
      intro j u hj
      rw [List.getElem?_map] at hj
      by_cases hjl : j < D.length
      · rw [List.getElem?_eq_getElem hjl] at hj
        simp only [Option.map_some, Option.some.injEq] at hj
        subst hj
        obtain ⟨b, off, e, h1⟩ := hR.cell j (by rw [← hR.eqlen]; exact hjl)
        simp only [Option.some.injEq] at e
        subst e
        rw [List.getD_eq_getElem?_getD, List.getElem?_eq_getElem hjl] at h1
        rw [Go.WideShapes.add_plain]
        exact h1
      · rw [List.getElem?_eq_none (by omega)] at hj
        simp at hj
    refine wpList_append_own _ hgd s x 22 ho base 3 i0 (.int .i64 0) 1 8 Try.underlying22 hi hz0 hz1 hz2 rfl (by decide) v k (cellsZ O) hs hown ad m c (cellsZ D) hx (by simp [hR.eqlen]) hcells (ints_oneCell _ _) (by unfold maxLen; omega) (by omega) hbase ?_
    intro v' w' h2 h3 h4
    refine h v' w' (by simpa [cellsZ] using h2) ((Below.refl base Wc).grown h3 hbase ?_)
    intro q hq
    have := hown.lt q hq
    omega
theorem or_low : ∀ k, k < 6 → ∀ m, m < 64 → m < 2 ^ k → bits .or .i64 ((m : Nat) : Int) ((2 ^ k : Nat) : Int) = ((m + 2 ^ k : Nat) : Int) := by decide +kernel
/-- a cube of the lower half, of the upper half -/
def upA (N : Nat) (c : Cb) : Cb := ⟨c.m + N, c.b, c.t⟩
def upB (N : Nat) (c : Cb) : Cb := ⟨c.m + N, c.b + N, c.t⟩
theorem cn_succ (k : Nat) (zs : List Int) : cn (k + 1) zs = if zs.take (2 ^ k) = zs.drop (2 ^ k) then cn k (zs.take (2 ^ k))
    else (cn k (zs.take (2 ^ k))).map (Cn.up (2 ^ k) 0) ++ (cn k (zs.drop (2 ^ k))).map (Cn.up (2 ^ k) (2 ^ k)) := rfl
theorem cb0_same (k : Nat) (T : List Int) (h : T.length = 2 ^ k) : cb0 (k + 1) (T ++ T) = cb0 k T := by
  unfold cb0
  rw [cn_succ, List.take_left' h, List.drop_left' h, if_pos rfl]
theorem cb0_both (k : Nat) (T U : List Int) (h : T.length = 2 ^ k) (hne : T ≠ U) : cb0 (k + 1) (T ++ U) = (cb0 k T).map (upA (2 ^ k)) ++ (cb0 k U).map (upB (2 ^ k)) := by
  unfold cb0
  rw [cn_succ, List.take_left' h, List.drop_left' h, if_neg hne, List.map_append, List.map_map, List.map_map, List.map_map, List.map_map]
  congr 1
theorem or_at (k : Nat) (hk : k < 6) (T : List Int) (x : Cb) (hx : x ∈ cb0 k T) : bits .or .i64 x.m ((2 ^ k : Nat) : Int) = x.m + ((2 ^ k : Nat) : Int) ∧ bits .or .i64 x.b ((2 ^ k : Nat) : Int) = x.b + ((2 ^ k : Nat) : Int) := by
  unfold cb0 at hx
  obtain ⟨c, hc, rfl⟩ := List.mem_map.1 hx
  have ho := cn_ok k T c hc
  have h1 := ho.m
  have h2 := ho.b
  have hp := (pow_le (k := k) (by omega)).2
  exact ⟨by rw [show (c.cb.m + ((2 ^ k : Nat) : Int)) = ((c.m + 2 ^ k : Nat) : Int) by show (c.m : Int) + _ = _; omega]; exact or_low k hk c.m (by omega) h1,
    by rw [show (c.cb.b + ((2 ^ k : Nat) : Int)) = ((c.b + 2 ^ k : Nat) : Int) by show (c.b : Int) + _ = _; omega]; exact or_low k hk c.b (by omega) h2⟩
theorem map_getD (f : Cb → Cb) (A : List Cb) (i : Nat) (hi : i < A.length) : (A.map f).getD i default = f (A.getD i default) := by
  rw [List.getD_eq_getElem?_getD, List.getElem?_map, List.getElem?_eq_getElem hi, List.getD_eq_getElem?_getD, List.getElem?_eq_getElem hi]; rfl
theorem app_low (A B : List Cb) (i : Nat) (hi : i < A.length) : (A ++ B).getD i default = A.getD i default := by
  rw [List.getD_eq_getElem?_getD, List.getElem?_append_left hi, ← List.getD_eq_getElem?_getD]
theorem app_high (A B : List Cb) (j : Nat) : (A ++ B).getD (A.length + j) default = B.getD j default := by
  rw [List.getD_eq_getElem?_getD, List.getElem?_append_right (by omega), show A.length + j - A.length = j by omega, ← List.getD_eq_getElem?_getD]
theorem mem_getC {A : List Cb} {i : Nat} (hi : i < A.length) : A.getD i default ∈ A := by
  rw [List.getD_eq_getElem?_getD, List.getElem?_eq_getElem hi, Option.getD_some]; exact List.getElem_mem _
set_option maxRecDepth 100000 in
set_option maxHeartbeats 1000000 in
/-- the two are no rows both, or of unlike lengths, or too long -/
theorem least_out (ao bo : Option Addr) (n m c1 c2 : Nat) (T U : List Int) (w : World) (h : RdZ w ao n c1 T) (g : RdZ w bo m c2 U) (hm : n * 8 ≤ 140737488351232) (gm : m * 8 ≤ 140737488351232)
    (L1 L2 : List Cb) (e1 e2 : Int) (h1 : packV T L1 e1) (h2 : packV U L2 e2) (hout : ¬ e1 = 0 ∨ ¬ e2 = 0 ∨ n ≠ m ∨ 32 < n) :
    Calls Try.prog 6 #[.slice ao n c1, .slice bo m c2] w fun e w' => e = .returned (.bool true) ∧ Below w.heap.size w w' := by
  have H1 : Hid (packV T L1 e1) := h1
  have H2 : Hid (packV U L2 e2) := h2
  clear h1 h2
  have key : (¬ e1 = 0) ∨ (e1 = 0 ∧ ¬ e2 = 0) ∨ (e1 = 0 ∧ e2 = 0 ∧ ¬ ((n : Int) = (m : Int))) ∨ (e1 = 0 ∧ e2 = 0 ∧ n = m ∧ (32 : Int) < (n : Int)) := by
    by_cases a1 : e1 = 0
    · by_cases a2 : e2 = 0
      · by_cases a3 : n = m
        · exact .inr (.inr (.inr ⟨a1, a2, a3, by rcases hout with h | h | h | h <;> first | exact absurd ‹_› h | omega⟩))
        · exact .inr (.inr (.inl ⟨a1, a2, by omega⟩))
      · exact .inr (.inl ⟨a1, a2⟩)
    · exact .inl a1
  clear hout
  rcases key with k1 | ⟨rfl, k2⟩ | ⟨rfl, rfl, k3⟩ | ⟨rfl, rfl, rfl, k4⟩
  all_goals
    go_enter Try.func6, Try.ntmps6
    go_wp2_with (first
      | (go_at_call 11; refine (fixed_at _).mono ?_; rintro e w1 ⟨rfl, hB1⟩; have hA1 := h.below (Nat.le_refl _) hB1)
      | (at_builtin; have _t := q3; refine wp_copyZ w3 w3 rfl (.tmp 24) (.tmp 25) rfl (Below.refl _ _) rfl bo _ c2 U rfl hU3 gm ?_; intro a4 c4 w4 hR4 hB4 hO4; clear hO4; have hW4 := bt2 hW3 hB4; clear q3)
      | (at_builtin; refine wp_copyZ w1 w1 rfl (.tmp 17) (.tmp 18) rfl (Below.refl _ _) rfl ao _ c1 T rfl hA1 hm ?_; intro a2 c2' w2 hR2 hB2 hO2; clear hO2; have hW2 := bt2 hB1 hB2)
      | (go_at_call 9; have _t := hR4; refine (pack_any _ _ _ U L2 _ _ hR4 H2.out).mono ?_; rintro e w5 ⟨a5, c5, rfl, hO5, hB5⟩; have hW5 := bt2 hW4 hB5)
      | (go_at_call 9; refine (pack_any _ _ _ T L1 _ _ hR2 H1.out).mono ?_; rintro e w3 ⟨a3, c3, rfl, hO3, hB3⟩; have hW3 := bt2 hW2 hB3; have hU3 := g.below (Nat.le_refl _) hW3; have q3 : Hid True := trivial))
    go_ret
    exact ⟨rfl, hW5⟩
set_option maxRecDepth 100000 in
set_option maxHeartbeats 2000000 in
theorem least_same (ao bo : Option Addr) (n c1 c2 k : Nat) (T : List Int) (w : World) (h : RdZ w ao n c1 T) (g : RdZ w bo n c2 T) (hk : k < 6) (hT : IsRow T k) :
    Calls Try.prog 6 #[.slice ao n c1, .slice bo n c2] w fun e w' => e = .returned (.bool true) ∧ Below w.heap.size w w' := by
  obtain ⟨_, hl, hp⟩ := hT
  have hn := h.eqlen
  have hp6 : 2 ^ k ≤ 2 ^ 5 := Nat.pow_le_pow_right (by omega) (by omega)
  have hn32 : n ≤ 32 := by omega
  have H1 : Hid (packV T (cb0 k T) 0) := .inl ⟨k, ⟨by omega, hl, hp⟩, rfl, rfl⟩
  have HW : Hid (packV (T ++ T) (cb0 k T) 0) := .inl ⟨k + 1, ⟨by omega, by rw [List.length_append, hl, pow_dbl], fun z hz => by
    rcases List.mem_append.1 hz with h | h
    · exact hp z h
    · exact hp z h⟩, (cb0_same k T hl).symm, rfl⟩
  have hm : n * 8 ≤ 140737488351232 := by omega
  have h32 : ¬ ((32 : Int) < (n : Int)) := by omega
  generalize cb0 k T = L at H1 HW
  clear hl hp hn hp6
  go_enter Try.func6, Try.ntmps6
  go_wp2_with (first
    | (go_at_call 11; refine (fixed_at _).mono ?_; rintro e w1 ⟨rfl, hB1⟩; have hA1 := h.below (Nat.le_refl _) hB1)
    | (at_builtin; have _t := q8; refine wp_joinZ w8 w7.heap.size rfl (.tmp 56) (.tmp 57) rfl _ n T rfl bo n c2 T rfl hO8 hU8 hB8.size (by omega) ?_; intro v9 w9 hO9 hB9; have hW9 := hW8.trans (hB9.mono hW7.size); obtain ⟨a9, c9, rfl, hR9⟩ := rdz_of_owns hO9; clear q8 hO9)
    | (at_builtin; have _t := q7; refine wp_copyZ w7 w7 rfl (.tmp 54) (.tmp 55) rfl (Below.refl _ _) rfl ao n c1 T rfl hA7 hm ?_; intro a8 c8 w8 hR8 hB8 hO8; have hW8 := bt2 hW7 hB8; have hU8 := g.below (Nat.le_refl _) hW8; clear q7; have q8 : Hid True := trivial)
    | (at_builtin; have _t := q3; refine wp_copyZ w3 w3 rfl (.tmp 24) (.tmp 25) rfl (Below.refl _ _) rfl bo n c2 T rfl hU3 hm ?_; intro a4 c4 w4 hR4 hB4 hO4; clear hO4; have hW4 := bt2 hW3 hB4; clear q3)
    | (at_builtin; refine wp_copyZ w1 w1 rfl (.tmp 17) (.tmp 18) rfl (Below.refl _ _) rfl ao n c1 T rfl hA1 hm ?_; intro a2 c2' w2 hR2 hB2 hO2; clear hO2; have hW2 := bt2 hB1 hB2)
    | (go_at_call 9; have _t := hR9; refine (pack_any _ _ _ (T ++ T) L 0 _ (by simpa using hR9) HW.out).mono ?_; rintro e w10 ⟨a10, c10, rfl, hO10, hB10⟩; have hW10 := bt2 hW9 hB10; have hc10 := (hc7.below (Nat.le_refl _) (hB8.trans hB9)).below (Nat.le_refl _) hB10; have hA10 := h.below (Nat.le_refl _) hW10; have hG10 := g.below (Nat.le_refl _) hW10; have hd10 := rdc_own hO10; clear hR9; have q10 : Hid True := trivial)
    | (go_at_call 9; have _t := hR4; refine (pack_any _ _ _ T L 0 _ hR4 H1.out).mono ?_; rintro e w5 ⟨a5, c5, rfl, hO5, hB5⟩; have hW5 := bt2 hW4 hB5; have hd5 := rdc_own hO5; have hc5 := (hc3.below (Nat.le_refl _) hB4).below (Nat.le_refl _) hB5)
    | (go_at_call 9; refine (pack_any _ _ _ T L 0 _ hR2 H1.out).mono ?_; rintro e w3 ⟨a3, c3, rfl, hO3, hB3⟩; have hW3 := bt2 hW2 hB3; have hU3 := g.below (Nat.le_refl _) hW3; have hc3 := rdc_own hO3; have q3 : Hid True := trivial)
    | (go_at_call 12; have _t := q10; refine (cubes_at _ _ _ _ _ _ L L true _ hd11 hc11 ⟨fun _ => rfl, fun _ => rfl⟩).mono ?_; rintro e w12 ⟨rfl, hB12⟩)
    | (go_at_call 12; refine (cubes_at _ _ _ _ _ _ L L true _ hc5 hd5 ⟨fun _ => rfl, fun _ => rfl⟩).mono ?_; rintro e w6 ⟨rfl, hB6⟩; have hW6 := bt2 hW5 hB6; have hc6 := hc5.below (Nat.le_refl _) hB6; have hA6 := h.below (Nat.le_refl _) hW6; have hG6 := g.below (Nat.le_refl _) hW6)
    | (go_at_call 13; have _t := q10; refine (ints_at _ _ _ _ _ _ T T true _ hA10 hG10 ⟨fun _ => rfl, fun _ => rfl⟩).mono ?_; rintro e w11 ⟨rfl, hB11⟩; have hW11 := bt2 hW10 hB11; have hc11 := hc10.below (Nat.le_refl _) hB11; have hd11 := hd10.below (Nat.le_refl _) hB11)
    | (go_at_call 13; refine (ints_at _ _ _ _ _ _ T T true _ hA6 hG6 ⟨fun _ => rfl, fun _ => rfl⟩).mono ?_; rintro e w7 ⟨rfl, hB7⟩; have hW7 := bt2 hW6 hB7; have hc7 := hc6.below (Nat.le_refl _) hB7; have hA7 := h.below (Nat.le_refl _) hW7; have q7 : Hid True := trivial))
  go_ret
  exact ⟨rfl, bt2 hW11 hB12⟩
end Go.Proofs.Ythkabeaecfiinaa.Ro
