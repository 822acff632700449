/- Slices of texts in memory: joined, copied. -/
import Derived.Test.YtiapkblebbcfbaaGlI
import Derived.Test.YtiapkblebbcfbaaGlN
import Derived.Laws.AppendOwnNone
import Derived.WalkSmall
namespace Go.Proofs.Ytiapkblebbcfbaa.Gl
open Go.RowKit
set_option linter.unusedVariables false

theorem strs_oneCell (T : List ByteArray) : ∀ u ∈ cellsS T, u.oneCell' = true := by
  intro u hu
  obtain ⟨_, _, rfl⟩ := List.mem_map.1 hu
  rfl
theorem cells_argS {W : World} {b off n cap : Nat} {T : List ByteArray} (h : RdS W (some ⟨b, off, none⟩) n cap T) : ∀ j u, (cellsS T)[j]? = some u → W.cell? ((⟨b, off, none⟩ : Addr).add j) = some u := by
  intro j u hj
  rw [List.getElem?_map] at hj
  by_cases hjl : j < T.length
  · rw [List.getElem?_eq_getElem hjl] at hj
    simp only [Option.map_some, Option.some.injEq] at hj
    subst hj
    obtain ⟨b', off', e, h1⟩ := h.cell j (by rw [← h.eqlen]; exact hjl)
    obtain ⟨rfl, rfl⟩ : b = b' ∧ off = off' := by simpa using e
    rw [sgetD_of hjl] at h1
    rw [Go.WideShapes.add_plain]
    exact h1
  · rw [List.getElem?_eq_none (by omega)] at hj
    simp at hj
/-- a slice's address is plain -/
theorem rds_addr {W : World} {ad : Addr} {n cap : Nat} {T : List ByteArray} (h : RdS W (some ad) n cap T) (hn : 0 < n) : ∃ b off, ad = ⟨b, off, none⟩ := by
  obtain ⟨b, off, e, _⟩ := h.cell 0 hn
  exact ⟨b, off, by simpa using e⟩
theorem cells_argA {W : World} {ad : Addr} {n cap : Nat} {T : List ByteArray} (h : RdS W (some ad) n cap T) : ∀ j u, (cellsS T)[j]? = some u → W.cell? (ad.add j) = some u := by
  by_cases hn : 0 < n
  · obtain ⟨b, off, rfl⟩ := rds_addr h hn
    exact cells_argS h
  · have : T = [] := List.length_eq_zero_iff.1 (by rw [h.eqlen]; omega)
    subst this
    intro j u hj
    simp at hj
/-- 'append(v, x...)' onto a row of the call's own -/
theorem wp_joinS {ops : Array Oper} {rest : List Oper} {o : Oper} {a : Act} {Q : Exit → Act → World → Prop} (W0 Wc : World) (B base : Nat) (hgd : o.guard = none) (s x : Operand)
    (ho : o.op = .call { callee := .builtin .append, args := #[s, x], argTypes := #[23, 23] }) (v : Value) (k : Nat) (O : List ByteArray) (hs : a.eval s = v) (ao : Option Addr) (m c : Nat) (D : List ByteArray) (hx : a.eval x = .slice ao m c)
    (hown : Wc.ownsRow base 9 1 v k (cellsS O)) (hR : RdS Wc ao m c D) (hbase : base ≤ Wc.heap.size) (hk : (k + m) * 16 ≤ 140737488355328) (hbel : Below B W0 Wc) (hB : B ≤ base)
    (h : ∀ v' w', w'.ownsRow base 9 1 v' (k + m) (cellsS (O ++ D)) → Below B W0 w' → Wc.grownBy w' v.ownBlock → wpList Try.prog ops Q rest (a.put o.dst v') w') : wpList Try.prog ops Q (o :: rest) a Wc := by
  obtain ⟨i0, hi, hz0, hz1, hz2⟩ := info_parts Try.infoStr
  cases ao with
  | none =>
    have hc0 := hR.isnil rfl
    have hl := hR.lecap
    obtain rfl : c = 0 := hc0
    obtain rfl : m = 0 := by omega
    have hz : D = [] := List.length_eq_zero_iff.1 hR.eqlen
    subst hz
    refine wpList_append_own_none hgd s x 23 ho base 9 i0 1 Try.underlying23 hi v k (cellsS O) hs hown hx ?_
    exact h v Wc (by simpa using hown) hbel ⟨rfl, rfl, rfl, Nat.le_refl _, fun _ _ _ => rfl⟩
  | some ad =>
    refine wpList_append_own _ hgd s x 23 ho base 9 i0 (.string emp) 1 16 Try.underlying23 hi hz0 hz1 hz2 rfl (by decide) v k (cellsS O) hs hown ad m c (cellsS D) hx (by simp [hR.eqlen]) (cells_argA hR) (strs_oneCell D) (by unfold maxLen; omega) (by omega) hbase ?_
    intro v' w' h2 h3 h4
    refine h v' w' (by simpa [cellsS] using h2) (hbel.grown h3 (by omega) ?_) h3
    intro q hq
    have := hown.lt q hq
    omega
/-- 'append([]string{}, x...)': a new slice of the same texts -/
theorem wp_copyS {ops : Array Oper} {rest : List Oper} {o : Oper} {a : Act} {Q : Exit → Act → World → Prop} (W : World) (hgd : o.guard = none) (s x : Operand)
    (ho : o.op = .call { callee := .builtin .append, args := #[s, x], argTypes := #[23, 23] })
    (hs : a.eval s = .slice (some ⟨W.heap.size, 0, none⟩) 0 0) (ao : Option Addr) (m c : Nat) (D : List ByteArray) (hx : a.eval x = .slice ao m c) (hR : RdS W ao m c D) (hm : m * 16 ≤ 140737488355328)
    (h : ∀ v' w', w'.ownsRow W.heap.size 9 1 v' m (cellsS D) → Below W.heap.size W w' → wpList Try.prog ops Q rest (a.put o.dst v') w') : wpList Try.prog ops Q (o :: rest) a (W.alloc (.cells #[] 9)) := by
  have hown := World.ownsRow_made (base := W.heap.size) (e := 9) (size := 1) W #[] 0 (Nat.le_refl _) (Nat.zero_le _) (by simp)
  refine wp_joinS W (W.alloc (.cells #[] 9)) W.heap.size W.heap.size hgd s x ho _ 0 [] hs ao m c D hx hown (hR.below (B := W.heap.size) (Nat.le_refl _) ((Below.refl _ _).alloc (Nat.le_refl _) _)) (by rw [World.size_alloc]; omega) (by omega) ((Below.refl _ _).alloc (Nat.le_refl _) _) (Nat.le_refl _) ?_
  intro v' w' h1 h2 _
  rw [Nat.zero_add, List.nil_append] at h1
  exact h v' w' h1 h2
end Go.Proofs.Ytiapkblebbcfbaa.Gl
