/- The program's set: Copy, Join, Meet, Less, Same. -/
import Derived.Test.YtholafecbmhhhaaCntMath
import Derived.Laws.CopyOwn
namespace Go.Proofs.Ytholafecbmhhhaa.Dg
open Go.RowKit
set_option linter.unusedVariables false

theorem splice_all {α : Type} (L cs : List α) (h : L.length = cs.length) : splice L 0 cs = cs := by
  unfold splice
  rw [List.take_zero, List.nil_append, Nat.zero_add, List.drop_of_length_le (by omega), List.append_nil]
theorem sizeU : (Try.prog.info? 77).map (·.size) = some 1 := by kernel_rfl
/-- 'copy(cells, s.cells)' into a row of the call's own, of the same length -/
theorem copy_run (w0 W : World) (B base g2 gs m : Nat) (C : List Nat) (Z : List Value)
    (hown : W.ownsRow base 77 1 (.slice (some ⟨g2, 0, none⟩) m m) m Z) (hsrc : W.ownsRow 0 77 1 (.slice (some ⟨gs, 0, none⟩) m m) m (cellsU C)) (hb : Below B w0 W) (hBg : B ≤ g2) :
    ∃ w', (Builtin.copy_ #[74, 74] 3 #[.slice (some ⟨g2, 0, none⟩) m m, .slice (some ⟨gs, 0, none⟩) m m]).run Try.prog W = .ok (goInt m) w' ∧ w'.ownsRow 0 77 1 (.slice (some ⟨g2, 0, none⟩) m m) m (cellsU C) ∧ Below B w0 w' := by
  rcases hown.2 with ⟨e, _⟩ | ⟨g', cap, cur, e, _, hh, _, hcm, hcs, _⟩
  · cases e
  · simp only [Value.slice.injEq, Option.some.injEq, Addr.mk.injEq, and_true, true_and] at e
    obtain ⟨rfl, rfl⟩ := e
    have hl : (cellsU C).length = m := by have := hsrc.1; omega
    have hrun := run_copy_row (P := Try.prog) W 74 74 3 77 g2 0 m m ⟨gs, 0, none⟩ m m cur 77 (cellsU C) Try.underlying74 sizeU hh (by rw [hl]; exact (Nat.min_self m).symm) (hsrc.cells rfl) (by omega) ?_
    · rw [hl] at hrun
      refine ⟨_, hrun, ?_, below_setRow hb hBg _⟩
      have hw := setRow_heap W g2 cur (cur.toList.take 0 ++ cellsU C ++ cur.toList.drop (0 + m)).toArray 77 (0, 0) hh
      have he : cur.toList.take 0 ++ cellsU C ++ cur.toList.drop (0 + m) = cellsU C := by
        rw [List.take_zero, List.nil_append, Nat.zero_add, List.drop_of_length_le (by simp only [Array.length_toList]; omega), List.append_nil]
      rw [he] at hw ⊢
      refine ⟨by omega, .inr ⟨g2, m, _, rfl, Nat.zero_le _, hw, Nat.le_refl _, hcm, by simpa using hl, ?_⟩⟩
      simp only [Nat.mul_one]
      exact List.take_of_length_le (by omega)
    · intro v hv
      obtain ⟨_, _, rfl⟩ := List.mem_map.1 hv
      rfl

set_option maxHeartbeats 1000000 in
theorem bcopy_at (p g n m : Nat) (C : List Nat) (w : World) (h : Bs w p g n m C) :
    Calls Try.prog 20 #[at_p p] w fun e w' => ∃ p' g', e = .returned (at_p p') ∧ Bs w' p' g' n m C ∧ w.heap.size ≤ p' ∧ w.heap.size ≤ g' ∧ Below w.heap.size w w' := by
  obtain ⟨ib, hb, hb0, hb1, hb2⟩ := info_parts Try.infoU
  have hs := h.sz
  have hc := h.at_c
  have hn := h.small
  have hm64 : m ≤ 64 := by have := h.len; omega
  go_enter Try.func20, Try.ntmps20
  go_wp2_with (at_make; refine wpList_make_full _ rfl _ _ 74 rfl w.heap.size 77 ib (.int .u64 0) 1 Try.underlying74 hb hb0 hb1 _ _ _ _ m rfl rfl rfl rfl (by rw [hb2]; omega) (by unfold maxLen; omega) (Nat.le_refl _) ?_; intro w2 hown2 hg2; have hB2 : Below w.heap.size w w2 := (Below.refl _ _).grown hg2 (Nat.le_refl _) (fun k e => by cases e); have h2 := h.below (Nat.le_refl _) hB2; have hs2 := h2.sz; have hc2 := h2.at_c)
  obtain ⟨w3, hrun, hown3, hB3⟩ := copy_run w w2 w.heap.size w.heap.size w.heap.size g m C _ hown2 h2.row hB2 (Nat.le_refl _)
  have h3 := h.below (Nat.le_refl _) hB3
  have hs3 := h3.sz
  have hc3 := h3.at_c
  rw [hrun]
  go_wp2
  go_ret
  have hgl := (hown3.lt w.heap.size rfl).2
  exact ⟨w3.heap.size, w.heap.size, rfl, ⟨by simp, by simp, hown3.alloc _, hn, h.len, h.lt, h.hi, by omega⟩, hB3.size, Nat.le_refl _, hB3.alloc hB3.size _⟩
theorem bcopy_nil (w : World) :
    Calls Try.prog 20 #[.pointer none] w fun e w' => e = .returned (.pointer none) ∧ w = w' := by
  go_enter Try.func20, Try.ntmps20
  go_wp2
  go_ret
  exact ⟨rfl, rfl⟩
end Go.Proofs.Ytholafecbmhhhaa.Dg
