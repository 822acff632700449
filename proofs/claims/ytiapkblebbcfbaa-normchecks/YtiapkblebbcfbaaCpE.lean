/- An append onto an empty slice that nobody else has, as an operation: for drawn statements. -/
import Derived.Test.YtiapkblebbcfbaaNmP
import Derived.Test.YtiapkblebbcfbaaGlU
import Derived.Test.YtiapkblebbcfbaaRgQ
namespace Go.Proofs.Ytiapkblebbcfbaa.Gl
open Go Go.RowKit
set_option linter.unusedVariables false
set_option linter.unusedSimpArgs false

theorem setRow_same {w : World} {p : Nat} {cs : Array Value} {t : TypeId} {fr : Nat × Nat} (h : w.heap[p]? = some (.cells cs t fr)) : w.setRow p cs = w := by
  unfold World.setRow
  cases w with
  | mk heap tape drawn os output =>
    simp only [World.mk.injEq, and_self, and_true]
    apply Array.ext_getElem?
    intro k
    rw [Array.getElem?_modify]
    split
    · next hk => subst hk; rw [show heap[p]? = _ from h]; rfl
    · rfl
/-- the slice's row is a block of cells of that type -/
def Bk (w : World) (a : Option Addr) (t : TypeId) : Prop := ∀ ad, a = some ad → ∃ cur, w.heap[ad.block]? = some (.cells cur t (0, 0))
theorem Bk.below {w w' : World} {a : Option Addr} {t : TypeId} (h : Bk w a t) (hb : Below w.heap.size w w') : Bk w' a t := fun ad e => by
  obtain ⟨cur, hc⟩ := h ad e
  exact ⟨cur, (hb.block _ (Array.getElem?_eq_some_iff.1 hc).1).trans hc⟩
theorem Bk.ne {w : World} {a : Option Addr} {t u : TypeId} {p : Nat} {vs : Array Value} (h : Bk w a t) (hp : Rb w p vs u) (hne : t ≠ u) : ∀ ad, a = some ad → ad.block ≠ p := fun ad e k => by
  obtain ⟨cur, hc⟩ := h ad e
  rw [k] at hc
  have := hc.symm.trans hp
  simp only [Option.some.injEq, Obj.cells.injEq] at this
  exact hne this.2.1
theorem bk_of_owns {w : World} {base n m c : Nat} {t : TypeId} {a : Option Addr} {xs : List Value} (h : w.ownsRow base t 1 (.slice a m c) n xs) : Bk w a t := fun ad e => by
  subst e
  rcases h.2 with ⟨hv, -⟩ | ⟨g, cap, cur, hv, hb, hg, -⟩
  · cases hv
  · simp only [Value.slice.injEq, Option.some.injEq] at hv
    obtain ⟨rfl, -⟩ := hv
    exact ⟨cur, hg⟩
/-- properties by a table of values, and others by a table of properties -/
def GS (tab : List (Nat × Value)) (ps : List (Nat × (Value → World → Prop))) (d : Nat) (v : Value) (w : World) : Prop := match tab.lookup d with | some x => v = x | none => match ps.lookup d with | some P => P v w | none => True
theorem lookup_mem {α : Type} : ∀ (l : List (Nat × α)) (d : Nat) (x : α), l.lookup d = some x → (d, x) ∈ l := by
  intro l
  induction l with
  | nil => intro d x h; cases h
  | cons q r ih =>
    intro d x h
    obtain ⟨k, y⟩ := q
    rw [List.lookup_cons] at h
    by_cases e : (d == k) = true
    · rw [e] at h
      have : d = k := by simpa using e
      subst this
      simp only [Option.some.injEq] at h
      subst h
      exact List.mem_cons_self ..
    · have e' : (d == k) = false := by simpa using e
      rw [e'] at h
      exact List.mem_cons_of_mem _ (ih d x h)
theorem gs_keep {tab : List (Nat × Value)} {ps : List (Nat × (Value → World → Prop))} {Rel : World → World → Prop} (h : ∀ q ∈ ps, ∀ v y z, q.2 v y → Rel y z → q.2 v z) : ∀ d v y z, GS tab ps d v y → Rel y z → GS tab ps d v z := by
  intro d v y z hg hr
  unfold GS at hg ⊢
  cases hl : tab.lookup d with
  | some x => rw [hl] at hg; exact hg
  | none =>
    rw [hl] at hg
    cases hp : ps.lookup d with
    | some P => rw [hp] at hg; exact h _ (lookup_mem ps d P hp) v y z hg hr
    | none => trivial
theorem op_copyZ {o : Oper} {a : Act} {K : Act → World → Prop} {Q : Exit → Act → World → Prop} (W : World) (p : Nat) (s x : Operand)
    (ho : o.op = .call { callee := .builtin .append, args := #[s, x], argTypes := #[24, 24] }) (hs : a.eval s = .slice (some ⟨p, 0, none⟩) 0 0)
    (hp : W.heap[p]? = some (.cells #[] 2 (0, 0))) (ao : Option Addr) (m c : Nat) (zs : List Int) (hx : a.eval x = .slice ao m c) (hR : RdZ W ao m c zs) (hm : m * 8 ≤ 140737488351232)
    (h : ∀ a' c' w', RdZ w' a' m c' zs → Bk w' a' 2 → Below W.heap.size W w' → K (a.put o.dst (.slice a' m c')) w') : o.wp Try.prog a W K Q := by
  obtain ⟨i0, hi, hz0, hz1, hz2⟩ := info_parts Try.infoI64
  have hown : W.ownsRow p 2 1 (.slice (some ⟨p, 0, none⟩) 0 0) 0 [] := ⟨by simp, .inr ⟨p, 0, #[], rfl, Nat.le_refl _, hp, Nat.le_refl _, Nat.zero_le _, rfl, rfl⟩⟩
  have hlen : zs.length = m := hR.eqlen
  cases ao with
  | none =>
    have hc0 := hR.isnil rfl
    have hl := hR.lecap
    obtain rfl : c = 0 := hc0
    obtain rfl : m = 0 := by omega
    have hz : zs = [] := List.length_eq_zero_iff.1 hlen
    subst hz
    have hrun := run_append_owned_none (P := Try.prog) (w := W) p 24 o.type 2 i0 1 Try.underlying24 hi _ 0 [] hown
    unfold Oper.wp
    simp [execOp, ho, resolve, invoke, builtin, hs, hx, hrun, Result.andThen]
    obtain ⟨ro, cr, hv, hR'⟩ := rdz_of_owns (zs := []) (by simpa using hown)
    simp only [Value.slice.injEq] at hv
    obtain ⟨rfl, -, rfl⟩ := hv
    exact h _ _ _ hR' (bk_of_owns hown) (Below.refl _ _)
  | some ad =>
    have hnews : ∀ j u, (cellsZ zs)[j]? = some u → W.cell? (ad.add j) = some u := by
      intro j u hj
      rw [List.getElem?_map] at hj
      by_cases hjl : j < zs.length
      · rw [List.getElem?_eq_getElem hjl] at hj
        simp only [Option.map_some, Option.some.injEq] at hj
        subst hj
        obtain ⟨b, off, e, h1⟩ := hR.cell j (by omega)
        simp only [Option.some.injEq] at e
        subst e
        rw [List.getD_eq_getElem?_getD, List.getElem?_eq_getElem hjl] at h1
        rw [Go.WideShapes.add_plain]
        exact h1
      · rw [List.getElem?_eq_none (by omega)] at hj
        simp at hj
    have hz1' : i0.size = 1 := hz1
    have hcl : (cellsZ zs).length = m * i0.size := by rw [hz1']; simp [cellsZ, hlen]
    by_cases h0 : m = 0
    · subst h0
      have hz : zs = [] := List.length_eq_zero_iff.1 hlen
      subst hz
      have hrun := run_append_room (P := Try.prog) W 24 o.type 2 i0 Try.underlying24 hi p 0 0 #[] hp ad 0 c (cellsZ []) hcl hnews (ints_oneCell _ _) (by omega) (by simp [cellsZ])
      rw [show (List.take (0 * i0.size) (#[] : Array Value).toList ++ cellsZ [] ++ List.drop (0 * i0.size + (cellsZ []).length) (#[] : Array Value).toList).toArray = #[] by simp [cellsZ], setRow_same hp] at hrun
      unfold Oper.wp
      simp [execOp, ho, resolve, invoke, builtin, hs, hx, hrun, Result.andThen]
      obtain ⟨ro, cr, hv, hR'⟩ := rdz_of_owns (zs := []) (by simpa using hown)
      simp only [Value.slice.injEq] at hv
      obtain ⟨rfl, -, rfl⟩ := hv
      exact h _ _ _ hR' (bk_of_owns hown) (Below.refl _ _)
    · have hrun := run_append_grow (P := Try.prog) W 24 o.type 2 i0 (.int .i64 0) Try.underlying24 hi hz0 ⟨p, 0, none⟩ 0 0 [] (by simp) (by intro j v hj; simp at hj) ad m c (cellsZ zs) hcl hnews (by omega) (by omega) (growslice_fits (by omega) (by rw [hz2]; omega))
      obtain ⟨v', w', h1, h2, h3, -⟩ := run_append_own (P := Try.prog) W p 24 o.type 2 i0 (.int .i64 0) 1 8 Try.underlying24 hi hz0 hz1 hz2 rfl (by decide) _ 0 [] hown ad m c (cellsZ zs) (by simp [hlen]) hnews (ints_oneCell _ _) (by unfold maxLen; omega) (by omega) (Nat.le_of_lt (Array.getElem?_eq_some_iff.1 hp).1)
      have hB : Below W.heap.size W w' := by
        rw [h1] at hrun
        simp only [Result.ok.injEq] at hrun
        obtain ⟨-, rfl⟩ := hrun
        exact ((Below.refl _ _).drew).alloc (Nat.le_refl _) _
      rw [List.nil_append, Nat.zero_add] at h2
      obtain ⟨ro, cr, rfl, hR'⟩ := rdz_of_owns h2
      unfold Oper.wp
      simp [execOp, ho, resolve, invoke, builtin, hs, hx, h1, Result.andThen]
      exact h _ _ _ hR' (bk_of_owns h2) hB
theorem op_copyS {o : Oper} {a : Act} {K : Act → World → Prop} {Q : Exit → Act → World → Prop} (W : World) (p : Nat) (s x : Operand)
    (ho : o.op = .call { callee := .builtin .append, args := #[s, x], argTypes := #[23, 23] }) (hs : a.eval s = .slice (some ⟨p, 0, none⟩) 0 0)
    (hp : W.heap[p]? = some (.cells #[] 9 (0, 0))) (ao : Option Addr) (m c : Nat) (ss : List ByteArray) (hx : a.eval x = .slice ao m c) (hR : RdS W ao m c ss) (hm : m * 16 ≤ 140737488351232)
    (h : ∀ a' c' w', RdS w' a' m c' ss → Bk w' a' 9 → Below W.heap.size W w' → K (a.put o.dst (.slice a' m c')) w') : o.wp Try.prog a W K Q := by
  obtain ⟨i0, hi, hz0, hz1, hz2⟩ := info_parts Try.infoStr
  have hown : W.ownsRow p 9 1 (.slice (some ⟨p, 0, none⟩) 0 0) 0 [] := ⟨by simp, .inr ⟨p, 0, #[], rfl, Nat.le_refl _, hp, Nat.le_refl _, Nat.zero_le _, rfl, rfl⟩⟩
  have hlen : ss.length = m := hR.eqlen
  cases ao with
  | none =>
    have hc0 := hR.isnil rfl
    have hl := hR.lecap
    obtain rfl : c = 0 := hc0
    obtain rfl : m = 0 := by omega
    have hz : ss = [] := List.length_eq_zero_iff.1 hlen
    subst hz
    have hrun := run_append_owned_none (P := Try.prog) (w := W) p 23 o.type 9 i0 1 Try.underlying23 hi _ 0 [] hown
    unfold Oper.wp
    simp [execOp, ho, resolve, invoke, builtin, hs, hx, hrun, Result.andThen]
    obtain ⟨ro, cr, hv, hR'⟩ := rds_of_owns (ss := []) (by simpa using hown)
    simp only [Value.slice.injEq] at hv
    obtain ⟨rfl, -, rfl⟩ := hv
    exact h _ _ _ hR' (bk_of_owns hown) (Below.refl _ _)
  | some ad =>
    have hnews : ∀ j u, (cellsS ss)[j]? = some u → W.cell? (ad.add j) = some u := by
      intro j u hj
      rw [List.getElem?_map] at hj
      by_cases hjl : j < ss.length
      · rw [List.getElem?_eq_getElem hjl] at hj
        simp only [Option.map_some, Option.some.injEq] at hj
        subst hj
        obtain ⟨b, off, e, h1⟩ := hR.cell j (by omega)
        simp only [Option.some.injEq] at e
        subst e
        rw [List.getD_eq_getElem?_getD, List.getElem?_eq_getElem hjl] at h1
        rw [Go.WideShapes.add_plain]
        exact h1
      · rw [List.getElem?_eq_none (by omega)] at hj
        simp at hj
    have hz1' : i0.size = 1 := hz1
    have hcl : (cellsS ss).length = m * i0.size := by rw [hz1']; simp [cellsS, hlen]
    by_cases h0 : m = 0
    · subst h0
      have hz : ss = [] := List.length_eq_zero_iff.1 hlen
      subst hz
      have hrun := run_append_room (P := Try.prog) W 23 o.type 9 i0 Try.underlying23 hi p 0 0 #[] hp ad 0 c (cellsS []) hcl hnews (strs_oneCell _) (by omega) (by simp [cellsS])
      rw [show (List.take (0 * i0.size) (#[] : Array Value).toList ++ cellsS [] ++ List.drop (0 * i0.size + (cellsS []).length) (#[] : Array Value).toList).toArray = #[] by simp [cellsS], setRow_same hp] at hrun
      unfold Oper.wp
      simp [execOp, ho, resolve, invoke, builtin, hs, hx, hrun, Result.andThen]
      obtain ⟨ro, cr, hv, hR'⟩ := rds_of_owns (ss := []) (by simpa using hown)
      simp only [Value.slice.injEq] at hv
      obtain ⟨rfl, -, rfl⟩ := hv
      exact h _ _ _ hR' (bk_of_owns hown) (Below.refl _ _)
    · have hrun := run_append_grow (P := Try.prog) W 23 o.type 9 i0 (.string emp) Try.underlying23 hi hz0 ⟨p, 0, none⟩ 0 0 [] (by simp) (by intro j v hj; simp at hj) ad m c (cellsS ss) hcl hnews (by omega) (by omega) (growslice_fits (by omega) (by rw [hz2]; omega))
      obtain ⟨v', w', h1, h2, h3, -⟩ := run_append_own (P := Try.prog) W p 23 o.type 9 i0 (.string emp) 1 16 Try.underlying23 hi hz0 hz1 hz2 rfl (by decide) _ 0 [] hown ad m c (cellsS ss) (by simp [hlen]) hnews (strs_oneCell _) (by unfold maxLen; omega) (by omega) (Nat.le_of_lt (Array.getElem?_eq_some_iff.1 hp).1)
      have hB : Below W.heap.size W w' := by
        rw [h1] at hrun
        simp only [Result.ok.injEq] at hrun
        obtain ⟨-, rfl⟩ := hrun
        exact ((Below.refl _ _).drew).alloc (Nat.le_refl _) _
      rw [List.nil_append, Nat.zero_add] at h2
      obtain ⟨ro, cr, rfl, hR'⟩ := rds_of_owns h2
      unfold Oper.wp
      simp [execOp, ho, resolve, invoke, builtin, hs, hx, h1, Result.andThen]
      exact h _ _ _ hR' (bk_of_owns h2) hB
end Go.Proofs.Ytiapkblebbcfbaa.Gl
