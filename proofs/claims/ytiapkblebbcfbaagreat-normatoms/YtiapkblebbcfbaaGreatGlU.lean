/- Slices of texts in memory: joined, copied. -/
import Derived.Test.YtiapkblebbcfbaaGreatGlI
import Derived.Test.YtiapkblebbcfbaaGreatGlN
import Derived.Laws.AppendOwnNone
import Derived.WalkSmall
import Derived.Test.YtiapkblebbcfbaaGreatGlT
import Derived.Test.YtiapkblebbcfbaaGreatGlMe
import Derived.Test.YtiapkblebbcfbaaGreatGlS
import Derived.Sort.OwnSorted
import Derived.Laws.CopyOwn
namespace Go.Proofs.YtiapkblebbcfbaaGreat.Gl
open Go.RowKit
set_option linter.unusedVariables false

theorem strs_oneCell (T : List ByteArray) : ∀ u ∈ cellsS T, u.oneCell' = true := by
  intro u hu
  obtain ⟨_, _, rfl⟩ := List.mem_map.1 hu
  rfl
theorem cells_argS {W : World} {b off n cap : Nat} {T : List ByteArray} (h : RdS W (some ⟨b, off, none⟩) n cap T) : ∀ j u, (cellsS T)[j]? = some u → W.cell? ((⟨b, off, none⟩ : Addr).add j) = some u := by
  intro j u hj
  rw [List.getElem?_map] at hj
  by_cases hjl : j < T.length
  · rw [List.getElem?_eq_getElem hjl] at hj
    simp only [Option.map_some, Option.some.injEq] at hj
    subst hj
    obtain ⟨b', off', e, h1⟩ := h.cell j (by rw [← h.eqlen]; exact hjl)
    obtain ⟨rfl, rfl⟩ : b = b' ∧ off = off' := by simpa using e
    rw [sgetD_of hjl] at h1
    rw [Go.WideShapes.add_plain]
    exact h1
  · rw [List.getElem?_eq_none (by omega)] at hj
    simp at hj
/-- a slice's address is plain -/
theorem rds_addr {W : World} {ad : Addr} {n cap : Nat} {T : List ByteArray} (h : RdS W (some ad) n cap T) (hn : 0 < n) : ∃ b off, ad = ⟨b, off, none⟩ := by
  obtain ⟨b, off, e, _⟩ := h.cell 0 hn
  exact ⟨b, off, by simpa using e⟩
theorem cells_argA {W : World} {ad : Addr} {n cap : Nat} {T : List ByteArray} (h : RdS W (some ad) n cap T) : ∀ j u, (cellsS T)[j]? = some u → W.cell? (ad.add j) = some u := by
  by_cases hn : 0 < n
  · obtain ⟨b, off, rfl⟩ := rds_addr h hn
    exact cells_argS h
  · have : T = [] := List.length_eq_zero_iff.1 (by rw [h.eqlen]; omega)
    subst this
    intro j u hj
    simp at hj
/-- 'append(v, x...)' onto a row of the call's own -/
theorem wp_joinS {ops : Array Oper} {rest : List Oper} {o : Oper} {a : Act} {Q : Exit → Act → World → Prop} (W0 Wc : World) (B base : Nat) (hgd : o.guard = none) (s x : Operand)
    (ho : o.op = .call { callee := .builtin .append, args := #[s, x], argTypes := #[26, 26] }) (v : Value) (k : Nat) (O : List ByteArray) (hs : a.eval s = v) (ao : Option Addr) (m c : Nat) (D : List ByteArray) (hx : a.eval x = .slice ao m c)
    (hown : Wc.ownsRow base 9 1 v k (cellsS O)) (hR : RdS Wc ao m c D) (hbase : base ≤ Wc.heap.size) (hk : (k + m) * 16 ≤ 140737488355328) (hbel : Below B W0 Wc) (hB : B ≤ base)
    (h : ∀ v' w', w'.ownsRow base 9 1 v' (k + m) (cellsS (O ++ D)) → Below B W0 w' → Wc.grownBy w' v.ownBlock → wpList Tryz.prog ops Q rest (a.put o.dst v') w') : wpList Tryz.prog ops Q (o :: rest) a Wc := by
  obtain ⟨i0, hi, hz0, hz1, hz2⟩ := info_parts Tryz.infoStr
  cases ao with
  | none =>
    have hc0 := hR.isnil rfl
    have hl := hR.lecap
    obtain rfl : c = 0 := hc0
    obtain rfl : m = 0 := by omega
    have hz : D = [] := List.length_eq_zero_iff.1 hR.eqlen
    subst hz
    refine wpList_append_own_none hgd s x 26 ho base 9 i0 1 Tryz.underlying26 hi v k (cellsS O) hs hown hx ?_
    exact h v Wc (by simpa using hown) hbel ⟨rfl, rfl, rfl, Nat.le_refl _, fun _ _ _ => rfl⟩
  | some ad =>
    refine wpList_append_own _ hgd s x 26 ho base 9 i0 (.string emp) 1 16 Tryz.underlying26 hi hz0 hz1 hz2 rfl (by decide) v k (cellsS O) hs hown ad m c (cellsS D) hx (by simp [hR.eqlen]) (cells_argA hR) (strs_oneCell D) (by unfold maxLen; omega) (by omega) hbase ?_
    intro v' w' h2 h3 h4
    refine h v' w' (by simpa [cellsS] using h2) (hbel.grown h3 (by omega) ?_) h3
    intro q hq
    have := hown.lt q hq
    omega
/-- 'append([]string{}, x...)': a new slice of the same texts -/
theorem wp_copyS {ops : Array Oper} {rest : List Oper} {o : Oper} {a : Act} {Q : Exit → Act → World → Prop} (W : World) (hgd : o.guard = none) (s x : Operand)
    (ho : o.op = .call { callee := .builtin .append, args := #[s, x], argTypes := #[26, 26] })
    (hs : a.eval s = .slice (some ⟨W.heap.size, 0, none⟩) 0 0) (ao : Option Addr) (m c : Nat) (D : List ByteArray) (hx : a.eval x = .slice ao m c) (hR : RdS W ao m c D) (hm : m * 16 ≤ 140737488355328)
    (h : ∀ v' w', w'.ownsRow W.heap.size 9 1 v' m (cellsS D) → Below W.heap.size W w' → wpList Tryz.prog ops Q rest (a.put o.dst v') w') : wpList Tryz.prog ops Q (o :: rest) a (W.alloc (.cells #[] 9)) := by
  have hown := World.ownsRow_made (base := W.heap.size) (e := 9) (size := 1) W #[] 0 (Nat.le_refl _) (Nat.zero_le _) (by simp)
  refine wp_joinS W (W.alloc (.cells #[] 9)) W.heap.size W.heap.size hgd s x ho _ 0 [] hs ao m c D hx hown (hR.below (B := W.heap.size) (Nat.le_refl _) ((Below.refl _ _).alloc (Nat.le_refl _) _)) (by rw [World.size_alloc]; omega) (by omega) ((Below.refl _ _).alloc (Nat.le_refl _) _) (Nat.le_refl _) ?_
  intro v' w' h1 h2 _
  rw [Nat.zero_add, List.nil_append] at h1
  exact h v' w' h1 h2
end Go.Proofs.YtiapkblebbcfbaaGreat.Gl
/- Slices of texts in memory: copied, joined, grown, sorted, struck out. -/
namespace Go.Proofs.YtiapkblebbcfbaaGreat.Gl
open Go.RowKit Go.Sort
set_option linter.unusedVariables false

theorem owns_prefix {w : World} {base g k cap c2 : Nat} {e : TypeId} {xs ys : List Value} (hl : xs.length = k) (h : w.ownsRow base e 1 (.slice (some ⟨g, 0, none⟩) (k + ys.length) cap) (k + ys.length) (xs ++ ys)) (hc : c2 = cap) : w.ownsRow base e 1 (.slice (some ⟨g, 0, none⟩) k c2) k xs := by
  subst hc
  rcases h.2 with ⟨e1, _⟩ | ⟨g', cap', cur, e1, hb, hh, hnc, hcm, hcs, ht⟩
  · cases e1
  · simp only [Value.slice.injEq, Option.some.injEq, Addr.mk.injEq, and_true, true_and] at e1
    obtain ⟨rfl, rfl⟩ := e1
    refine ⟨by omega, .inr ⟨g, c2, cur, rfl, hb, hh, by omega, hcm, hcs, ?_⟩⟩
    have := congrArg (List.take k) ht
    rw [List.take_take, Nat.mul_one, Nat.min_eq_left (by omega)] at this
    rw [Nat.mul_one, this, ← hl]
    exact List.take_left
theorem owns_len {w : World} {base n : Nat} {v : Value} {T : List ByteArray} (h : w.ownsRow base 9 1 v n (cellsS T)) : T.length = n := by
  have := h.1
  rw [List.length_map] at this
  omega
theorem srt_nil : srt [] = [] := by simp [srt]
theorem sort_own (base n : Nat) (v : Value) (T : List ByteArray) (w : World) (h : w.ownsRow base 9 1 v n (cellsS T)) (hn : n < 4611686018427387904) :
    Calls Tryz.prog 63 #[v] w fun e w' => e = .returned (.tuple #[]) ∧ w'.ownsRow base 9 1 v n (cellsS (srt T)) ∧ w.grownBy w' v.ownBlock := by
  have hl := owns_len h
  rcases h.2 with ⟨rfl, rfl⟩ | ⟨g, cap, cur, rfl, hbg, hh, hnc, hcm, hcs, ht⟩
  · have : T = [] := List.length_eq_zero_iff.1 hl
    subst this
    refine (sort_lib_none none 0 w).mono ?_
    rintro e w' ⟨rfl, rfl⟩
    exact ⟨rfl, by rw [srt_nil]; exact World.ownsRow_nil _ _ _ _, rfl, rfl, rfl, Nat.le_refl _, fun _ _ _ => rfl⟩
  · have hl2 : (tl T).length = n := by rw [List.length_map, hl]
    have hH : Holds encStr w g 0 (tl T).toArray := holds_of_block hh (by rw [hl2, ← cells_tl]; simpa using ht)
    have K := sort_lib g 0 cap (tl T) w hH (Array.getElem?_eq_some_iff.1 hh).1 (by omega)
    rw [hl2] at K
    refine K.mono ?_
    rintro e w' ⟨rfl, q, os, rfl⟩
    refine ⟨rfl, ?_, grownBy_sorted _⟩
    have hs := ownsRow_sorted (w := w) (base := base) (g := g) (cap := cap) (n := q) (e := 9) (os := os) (cur := cur) (ss := tl T) (ts := (tl T).mergeSort fun x y => decide (x ≤ y)) (by simp) hbg hh (by rw [hl2]; exact hnc) hcm hcs
    rw [hl2] at hs
    rw [srt, cells_un]
    exact hs
theorem compact_own (base n : Nat) (v : Value) (T : List ByteArray) (w : World) (h : w.ownsRow base 9 1 v n (cellsS T)) (hn : n < 4611686018427387904) :
    Calls Tryz.prog 64 #[v] w fun e w' => ∃ v', e = .returned v' ∧ w'.ownsRow base 9 1 v' (cmpt (tl T)).length (cellsS (cmpt (tl T))) ∧ w.grownBy w' v.ownBlock := by
  have hl := owns_len h
  rcases h.2 with ⟨rfl, rfl⟩ | ⟨g, cap, cur, rfl, hbg, hh, hnc, hcm, hcs, ht⟩
  · have : T = [] := List.length_eq_zero_iff.1 hl
    subst this
    refine (compact_lib_empty none 0 w).mono ?_
    rintro e w' ⟨rfl, rfl⟩
    exact ⟨_, rfl, World.ownsRow_nil _ _ _ _, rfl, rfl, rfl, Nat.le_refl _, fun _ _ _ => rfl⟩
  · have hl2 : (tl T).length = n := by rw [List.length_map, hl]
    have hH : Holds encStr w g 0 (tl T).toArray := holds_of_block hh (by rw [hl2, ← cells_tl]; simpa using ht)
    have K := compact_lib g 0 cap (tl T) w hH (by omega) (by omega)
    have hcl := cmpt_le (tl T)
    rw [hl2] at K hcl
    refine K.mono ?_
    rintro e w' ⟨rfl, q, rfl⟩
    have e0 : (cmpt (tl T)).length = (Lib.compact (tl T)).length := by simp [cmpt]
    have hs := ownsRow_sorted (w := w) (base := base) (g := g) (cap := cap) (n := q) (e := 9) (os := #[]) (cur := cur) (ss := tl T) (ts := Lib.compact (tl T) ++ List.replicate (n - (Lib.compact (tl T)).length) []) (by rw [List.length_append, List.length_replicate, hl2]; omega) hbg hh (by rw [hl2]; exact hnc) hcm hcs
    have hgr := grownBy_sorted (w := w) (g := g) (n := q) (os := #[]) (Lib.compact (tl T) ++ List.replicate (n - (Lib.compact (tl T)).length) []).toArray
    rw [grow_empty] at hs hgr
    rw [hl2] at hs
    refine ⟨_, rfl, ?_, hgr⟩
    rw [e0, cmpt, cells_un]
    generalize Lib.compact (tl T) = C at *
    rw [List.map_append] at hs
    have e1 : n = C.length + ((List.replicate (n - C.length) ([] : L8)).map encStr).length := by simp; omega
    refine owns_prefix (ys := (List.replicate (n - C.length) ([] : L8)).map encStr) (by simp) ?_ rfl
    rw [← e1]
    exact hs
end Go.Proofs.YtiapkblebbcfbaaGreat.Gl
