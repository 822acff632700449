/- Slices of texts in memory: copied, joined, grown, sorted, struck out. -/
import Derived.Test.YtiapkblebbcfbaaGlT
import Derived.Test.YtiapkblebbcfbaaGlMe
import Derived.Test.YtiapkblebbcfbaaGlS
import Derived.Test.YtiapkblebbcfbaaGlU0
import Derived.Sort.OwnSorted
import Derived.Laws.CopyOwn
namespace Go.Proofs.Ytiapkblebbcfbaa.Gl
open Go.RowKit Go.Sort
set_option linter.unusedVariables false

theorem owns_prefix {w : World} {base g k cap c2 : Nat} {e : TypeId} {xs ys : List Value} (hl : xs.length = k) (h : w.ownsRow base e 1 (.slice (some ⟨g, 0, none⟩) (k + ys.length) cap) (k + ys.length) (xs ++ ys)) (hc : c2 = cap) : w.ownsRow base e 1 (.slice (some ⟨g, 0, none⟩) k c2) k xs := by
  subst hc
  rcases h.2 with ⟨e1, _⟩ | ⟨g', cap', cur, e1, hb, hh, hnc, hcm, hcs, ht⟩
  · cases e1
  · simp only [Value.slice.injEq, Option.some.injEq, Addr.mk.injEq, and_true, true_and] at e1
    obtain ⟨rfl, rfl⟩ := e1
    refine ⟨by omega, .inr ⟨g, c2, cur, rfl, hb, hh, by omega, hcm, hcs, ?_⟩⟩
    have := congrArg (List.take k) ht
    rw [List.take_take, Nat.mul_one, Nat.min_eq_left (by omega)] at this
    rw [Nat.mul_one, this, ← hl]
    exact List.take_left
theorem owns_len {w : World} {base n : Nat} {v : Value} {T : List ByteArray} (h : w.ownsRow base 9 1 v n (cellsS T)) : T.length = n := by
  have := h.1
  rw [List.length_map] at this
  omega
theorem srt_nil : srt [] = [] := by simp [srt]
theorem sort_own (base n : Nat) (v : Value) (T : List ByteArray) (w : World) (h : w.ownsRow base 9 1 v n (cellsS T)) (hn : n < 4611686018427387904) :
    Calls Try.prog 64 #[v] w fun e w' => e = .returned (.tuple #[]) ∧ w'.ownsRow base 9 1 v n (cellsS (srt T)) ∧ w.grownBy w' v.ownBlock := by
  have hl := owns_len h
  rcases h.2 with ⟨rfl, rfl⟩ | ⟨g, cap, cur, rfl, hbg, hh, hnc, hcm, hcs, ht⟩
  · have : T = [] := List.length_eq_zero_iff.1 hl
    subst this
    refine (sort_lib_none none 0 w).mono ?_
    rintro e w' ⟨rfl, rfl⟩
    exact ⟨rfl, by rw [srt_nil]; exact World.ownsRow_nil _ _ _ _, rfl, rfl, rfl, Nat.le_refl _, fun _ _ _ => rfl⟩
  · have hl2 : (tl T).length = n := by rw [List.length_map, hl]
    have hH : Holds encStr w g 0 (tl T).toArray := holds_of_block hh (by rw [hl2, ← cells_tl]; simpa using ht)
    have K := sort_lib g 0 cap (tl T) w hH (Array.getElem?_eq_some_iff.1 hh).1 (by omega)
    rw [hl2] at K
    refine K.mono ?_
    rintro e w' ⟨rfl, q, os, rfl⟩
    refine ⟨rfl, ?_, grownBy_sorted _⟩
    have hs := ownsRow_sorted (w := w) (base := base) (g := g) (cap := cap) (n := q) (e := 9) (os := os) (cur := cur) (ss := tl T) (ts := (tl T).mergeSort fun x y => decide (x ≤ y)) (by simp) hbg hh (by rw [hl2]; exact hnc) hcm hcs
    rw [hl2] at hs
    rw [srt, cells_un]
    exact hs
theorem compact_own (base n : Nat) (v : Value) (T : List ByteArray) (w : World) (h : w.ownsRow base 9 1 v n (cellsS T)) (hn : n < 4611686018427387904) :
    Calls Try.prog 65 #[v] w fun e w' => ∃ v', e = .returned v' ∧ w'.ownsRow base 9 1 v' (cmpt (tl T)).length (cellsS (cmpt (tl T))) ∧ w.grownBy w' v.ownBlock := by
  have hl := owns_len h
  rcases h.2 with ⟨rfl, rfl⟩ | ⟨g, cap, cur, rfl, hbg, hh, hnc, hcm, hcs, ht⟩
  · have : T = [] := List.length_eq_zero_iff.1 hl
    subst this
    refine (compact_lib_empty none 0 w).mono ?_
    rintro e w' ⟨rfl, rfl⟩
    exact ⟨_, rfl, World.ownsRow_nil _ _ _ _, rfl, rfl, rfl, Nat.le_refl _, fun _ _ _ => rfl⟩
  · have hl2 : (tl T).length = n := by rw [List.length_map, hl]
    have hH : Holds encStr w g 0 (tl T).toArray := holds_of_block hh (by rw [hl2, ← cells_tl]; simpa using ht)
    have K := compact_lib g 0 cap (tl T) w hH (by omega) (by omega)
    have hcl := cmpt_le (tl T)
    rw [hl2] at K hcl
    refine K.mono ?_
    rintro e w' ⟨rfl, q, rfl⟩
    have e0 : (cmpt (tl T)).length = (Lib.compact (tl T)).length := by simp [cmpt]
    have hs := ownsRow_sorted (w := w) (base := base) (g := g) (cap := cap) (n := q) (e := 9) (os := #[]) (cur := cur) (ss := tl T) (ts := Lib.compact (tl T) ++ List.replicate (n - (Lib.compact (tl T)).length) []) (by rw [List.length_append, List.length_replicate, hl2]; omega) hbg hh (by rw [hl2]; exact hnc) hcm hcs
    have hgr := grownBy_sorted (w := w) (g := g) (n := q) (os := #[]) (Lib.compact (tl T) ++ List.replicate (n - (Lib.compact (tl T)).length) []).toArray
    rw [grow_empty] at hs hgr
    rw [hl2] at hs
    refine ⟨_, rfl, ?_, hgr⟩
    rw [e0, cmpt, cells_un]
    generalize Lib.compact (tl T) = C at *
    rw [List.map_append] at hs
    have e1 : n = C.length + ((List.replicate (n - C.length) ([] : L8)).map encStr).length := by simp; omega
    refine owns_prefix (ys := (List.replicate (n - C.length) ([] : L8)).map encStr) (by simp) ?_ rfl
    rw [← e1]
    exact hs
end Go.Proofs.Ytiapkblebbcfbaa.Gl
