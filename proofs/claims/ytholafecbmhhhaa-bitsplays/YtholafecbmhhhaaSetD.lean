/- The document's set: Copy. -/
import Derived.Test.YtholafecbmhhhaaSetC
namespace Go.Proofs.Ytholafecbmhhhaa.Dg
open Go.RowKit
set_option linter.unusedVariables false

theorem made_place2 {w w2 : World} {v : Value} {t : TypeId} {o : Obj} {row : Option Nat} (hg : ((w.alloc (.cells #[v] t)).alloc o).grownBy w2 row) (hr : some w.heap.size ≠ row) : w2.cell? ⟨w.heap.size, 0, none⟩ = some v ∧ w2.frozen? ⟨w.heap.size, 0, none⟩ = false := by
  have hb := hg.block w.heap.size (by simp; omega) hr
  have ha : ((w.alloc (.cells #[v] t)).alloc o).heap[w.heap.size]? = some (.cells #[v] t (0, 0)) := (Below.heap_alloc _ _ _ (by simp)).trans (heap_alloc_new _ _)
  exact ⟨(cell_of_one (hb.trans ha)), frozen_of_row w2 w.heap.size 0 _ _ (hb.trans ha)⟩
theorem bits_news {w : World} {s : Addr} {g n c : Nat} {T : List Bool} (h : Rs w s (some ⟨g, 0, none⟩) n c T) (o1 o2 : Obj) (j : Nat) (u : Value) (hj : (cellsB T)[j]? = some u) : ((w.alloc o1).alloc o2).cell? ((⟨g, 0, none⟩ : Addr).add j) = some u := by
  have hl := h.len
  rw [List.getElem?_map] at hj
  by_cases hjl : j < T.length
  · have h1 := ownsB_cell h.row j (by omega)
    have hlt : g < w.heap.size := World.block_lt_of_cell? _ _ h1
    rw [List.getElem?_eq_getElem hjl] at hj
    simp only [Option.map_some, Option.some.injEq] at hj
    subst hj
    rw [List.getD_eq_getElem?_getD, List.getElem?_eq_getElem hjl] at h1
    rw [Go.WideShapes.add_plain, Nat.zero_add, World.cell?_of_block (Below.heap_alloc _ _ _ (by simp; omega)), World.cell?_of_block (Below.heap_alloc _ _ _ hlt)]
    exact h1
  · rw [List.getElem?_eq_none (by omega)] at hj
    simp at hj

/-- 'append([]bool{}, s.In...)' -/
theorem wp_copyB {ops : Array Oper} {rest : List Oper} {o : Oper} {a : Act} {Q : Exit → Act → World → Prop} (w : World) (o1 : Obj) (hgd : o.guard = none) (s x : Operand)
    (ho : o.op = .call { callee := .builtin .append, args := #[s, x], argTypes := #[33, 33] }) (hs : a.eval s = .slice (some ⟨w.heap.size + 1, 0, none⟩) 0 0)
    {S : Addr} (g n c : Nat) (T : List Bool) (hx : a.eval x = .slice (some ⟨g, 0, none⟩) n c) (h : Rs w S (some ⟨g, 0, none⟩) n c T)
    (k : ∀ v' w', w'.ownsRow (w.heap.size + 1) 4 1 v' n (cellsB T) → ((w.alloc o1).alloc (.cells #[] 4)).grownBy w' (some (w.heap.size + 1)) → wpList Try.prog ops Q rest (a.put o.dst v') w') :
    wpList Try.prog ops Q (o :: rest) a ((w.alloc o1).alloc (.cells #[] 4)) := by
  obtain ⟨i0, hi, hz0, hz1, hz2⟩ := info_parts Try.infoBool
  have hn := h.small
  have hl := h.len
  have hsz : (w.alloc o1).heap.size = w.heap.size + 1 := World.size_alloc _ _
  have hown := World.ownsRow_made (base := w.heap.size + 1) (e := 4) (size := 1) (w.alloc o1) #[] 0 (by omega) (Nat.zero_le _) (by simp)
  rw [hsz] at hown
  refine wpList_append_own _ hgd s x 33 ho (w.heap.size + 1) 4 i0 (.bool false) 1 1 Try.underlying33 hi hz0 hz1 hz2 rfl (by decide) _ 0 [] hs hown ⟨g, 0, none⟩ n c (cellsB T) hx (by simp [hl]) (bits_news h o1 _) ?_ (by unfold maxLen; omega) (by omega) ?_ ?_
  · intro u hu
    obtain ⟨b, _, rfl⟩ := List.mem_map.1 hu
    rfl
  · rw [World.size_alloc]; omega
  · intro v' w' h1 h2 _
    rw [Nat.zero_add, List.nil_append] at h1
    exact k v' w' h1 h2
theorem wp_copyB0 {ops : Array Oper} {rest : List Oper} {o : Oper} {a : Act} {Q : Exit → Act → World → Prop} (w : World) (o1 : Obj) (hgd : o.guard = none) (s x : Operand)
    (ho : o.op = .call { callee := .builtin .append, args := #[s, x], argTypes := #[33, 33] }) (hs : a.eval s = .slice (some ⟨w.heap.size + 1, 0, none⟩) 0 0) (hx : a.eval x = .slice none 0 0)
    (k : ∀ v' w', w'.ownsRow (w.heap.size + 1) 4 1 v' 0 [] → ((w.alloc o1).alloc (.cells #[] 4)).grownBy w' (some (w.heap.size + 1)) → wpList Try.prog ops Q rest (a.put o.dst v') w') :
    wpList Try.prog ops Q (o :: rest) a ((w.alloc o1).alloc (.cells #[] 4)) := by
  obtain ⟨i0, hi, hz0, hz1, hz2⟩ := info_parts Try.infoBool
  have hsz : (w.alloc o1).heap.size = w.heap.size + 1 := World.size_alloc _ _
  have hown := World.ownsRow_made (base := w.heap.size + 1) (e := 4) (size := 1) (w.alloc o1) #[] 0 (by omega) (Nat.zero_le _) (by simp)
  rw [hsz] at hown
  exact wpList_append_own_none hgd s x 33 ho (w.heap.size + 1) 4 i0 1 Try.underlying33 hi _ 0 [] hs hown hx (k _ _ hown ⟨rfl, rfl, rfl, Nat.le_refl _, fun _ _ _ => rfl⟩)

theorem copy_end {w w2 : World} {o2 : Obj} (hg : ((w.alloc (.cells #[.slice none 0 0] 35)).alloc o2).grownBy w2 (some (w.heap.size + 1))) : Below w.heap.size w w2 := by
  have h1 : Below w.heap.size w (w.alloc (.cells #[.slice none 0 0] 35)) := (Below.refl _ _).alloc (Nat.le_refl _) _
  have h2 := h1.alloc (o := o2) (by rw [World.size_alloc]; omega)
  exact h2.grown hg (by rw [World.size_alloc, World.size_alloc]; omega) (fun k h => by cases h; omega)

theorem owns_slice {w : World} {base e n : Nat} {v : Value} {xs : List Value} (h : w.ownsRow base e 1 v n xs) : ∃ ro rc, v = .slice ro n rc := by
  rcases h.2 with ⟨rfl, rfl⟩ | ⟨g, cap, cur, rfl, _⟩
  · exact ⟨none, 0, rfl⟩
  · exact ⟨_, cap, rfl⟩

set_option maxHeartbeats 1000000 in
theorem copy_at (sb so : Nat) (ao : Option Addr) (n c : Nat) (T : List Bool) (w : World) (h : Rs w ⟨sb, so, none⟩ ao n c T) :
    Calls Try.prog 21 #[.pointer (some ⟨sb, so, none⟩)] w fun e w' => ∃ v, e = .returned (.agg #[v]) ∧ w'.ownsRow (w.heap.size + 1) 4 1 v n (cellsB T) ∧ Below w.heap.size w w' := by
  have hs := h.at_s
  have hn := h.small
  have hsb : sb < w.heap.size := World.block_lt_of_cell? _ _ hs
  have HL : Hid (T.length = n) := h.len
  rcases h.row.2 with ⟨hv, hn0⟩ | ⟨g, cap, cur, hv, _⟩
  · simp only [Value.slice.injEq] at hv
    obtain ⟨rfl, rfl, rfl⟩ := hv
    have hT : T = [] := List.length_eq_zero_iff.1 HL.out
    subst hT
    clear hn0
    go_enter Try.func21, Try.ntmps21
    go_wp2_with (at_builtin; refine wp_copyB0 w _ rfl (.tmp 3) (.tmp 7) rfl rfl rfl ?_; intro v2 w2 hown2 hg2; obtain ⟨hk0, hkf⟩ := made_place2 hg2 (by intro e; injection e; omega); obtain ⟨ro, rc, rfl⟩ := owns_slice hown2)
    have hkc := World.cell?_setCell_same _ _ (.slice ro 0 rc) hk0
    exact bodyPost_ret (v := .agg #[.slice ro 0 rc]) (by simp [results, Try.results21, go_sem, hkc]) rfl ⟨_, rfl, ownsRow_setCell_below hown2 (by simp) _, (copy_end hg2).setCell (Nat.le_refl _) _⟩
  · simp only [Value.slice.injEq, true_and] at hv
    obtain ⟨rfl, rfl⟩ := hv
    go_enter Try.func21, Try.ntmps21
    go_wp2_with (at_builtin; refine wp_copyB w _ rfl (.tmp 3) (.tmp 7) rfl rfl g n c T rfl h ?_; intro v2 w2 hown2 hg2; obtain ⟨hk0, hkf⟩ := made_place2 hg2 (by intro e; injection e; omega); obtain ⟨ro, rc, rfl⟩ := owns_slice hown2)
    have hkc := World.cell?_setCell_same _ _ (.slice ro n rc) hk0
    exact bodyPost_ret (v := .agg #[.slice ro n rc]) (by simp [results, Try.results21, go_sem, hkc]) rfl ⟨_, rfl, ownsRow_setCell_below hown2 (by simp) _, (copy_end hg2).setCell (Nat.le_refl _) _⟩
end Go.Proofs.Ytholafecbmhhhaa.Dg
