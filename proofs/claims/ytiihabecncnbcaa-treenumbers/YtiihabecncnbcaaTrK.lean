/- The document's Names. -/
import Derived.Test.YtiihabecncnbcaaTrJ
import Derived.Test.YtiihabecncnbcaaGlU0
namespace Go.Proofs.Ytiihabecncnbcaa.Gl
open Go.RowKit
set_option linter.unusedVariables false

mutual
def namesT : Tm → List ByteArray | .mk o n x a => if o = 1 then [x] else togL (namesTL a)
def namesTL : List Tm → List ByteArray | [] => [] | t :: r => namesT t ++ namesTL r
end
theorem tog_le (l : List ByteArray) : (togL l).length ≤ l.length := by
  have := fold_length l []
  simpa [togL] using this
theorem namesTL_len {l : List Tm} (h : ∀ t ∈ l, (namesT t).length ≤ t.size) : (namesTL l).length ≤ Tm.sizeL l := by
  induction l with
  | nil => rw [namesTL, Tm.sizeL]; exact Nat.le_refl _
  | cons t r ih =>
    rw [namesTL, Tm.sizeL, List.length_append]
    have := h t (List.mem_cons_self ..)
    have := ih (fun u hu => h u (List.mem_cons_of_mem _ hu))
    omega
theorem namesT_len : ∀ t, (namesT t).length ≤ Tm.size t := by
  refine Tm.ind (fun o n x a ih => ?_)
  rw [namesT, Tm.size]
  split
  · simp
  · have := tog_le (namesTL a)
    have := namesTL_len ih
    omega
theorem namesTL_append (l r : List Tm) : namesTL (l ++ r) = namesTL l ++ namesTL r := by
  induction l with
  | nil => rw [List.nil_append, namesTL, List.nil_append]
  | cons t q ih => rw [List.cons_append, namesTL, namesTL, ih, List.append_assoc]
theorem namesTL_take (a : List Tm) (k : Nat) (h : k < a.length) : namesTL (a.take (k + 1)) = namesTL (a.take k) ++ namesT a[k] := by
  rw [List.take_succ_eq_append_getElem h, namesTL_append, namesTL, namesTL, List.append_nil]
theorem Tm.sizeL_take (a : List Tm) (k : Nat) : Tm.sizeL (a.take k) ≤ Tm.sizeL a := by
  induction a generalizing k with
  | nil => simp
  | cons t r ih =>
    cases k with
    | zero => rw [List.take_zero, Tm.sizeL]; omega
    | succ k => rw [List.take_succ_cons, Tm.sizeL, Tm.sizeL]; have := ih k; omega
theorem own_one (W : World) (base b : Nat) (e : TypeId) (v : Value) (hb : W.heap.size = b) (hB : base ≤ b) : (W.alloc (.cells #[v] e)).ownsRow base e 1 (.slice (some ⟨b, 0, none⟩) 1 1) 1 [v] := by
  subst hb
  exact ⟨rfl, .inr ⟨W.heap.size, 1, #[v], rfl, hB, heap_alloc_new _ _, Nat.le_refl _, by decide, rfl, rfl⟩⟩
set_option maxHeartbeats 2000000 in
theorem rnames_at (W : World) : ∀ t v w, TmV W t v → Below W.heap.size W w → t.size ≤ 1000 →
    Calls Try.prog 28 #[v] w fun e w' => ∃ v', e = .returned v' ∧ w'.ownsRow w.heap.size 9 1 v' (namesT t).length (cellsS (namesT t)) ∧ Below w.heap.size w w' := by
  refine Tm.ind (fun o n x a ih v w hv hW hsz => ?_)
  obtain ⟨c0, c1, c2, c3, rfl, hr⟩ := hv
  rw [RdT] at hr
  obtain ⟨rfl, rfl, rfl, hbd, ao, cap, rfl, hlc, hcz, hL⟩ := hr
  have IH : Hid (∀ t ∈ a, ∀ v w, TmV W t v → Below W.heap.size W w → t.size ≤ 1000 → Calls Try.prog 28 #[v] w fun e w' => ∃ v', e = .returned v' ∧ w'.ownsRow w.heap.size 9 1 v' (namesT t).length (cellsS (namesT t)) ∧ Below w.heap.size w w') := ih
  clear ih
  have hWs := hW.size
  rw [Tm.size] at hsz
  by_cases ho : o = 1
  · subst ho
    rw [namesT, if_pos rfl]
    go_enter Try.func28, Try.ntmps28
    go_wp2
    go_ret
    refine ⟨_, rfl, ?_, bta (bta0 _ _) _⟩
    exact own_one _ _ _ _ _ (by simp) (by simp)
  · have ho' : (o == 1) = false := by simpa using ho
    rw [namesT, if_neg ho]
    obtain ⟨m, hm⟩ : ∃ m, a.length = m := ⟨_, rfl⟩
    rw [hm] at hlc ⊢
    have hbx := fun o' => cell_newO w #[.int .i64 o, .int .i64 n, .string x, .slice ao m cap] 58 _ rfl o'
    have hb1 : Below w.heap.size w (w.alloc (.cells #[.int .i64 o, .int .i64 n, .string x, .slice ao m cap] 58)) := bta0 _ _
    have hs1 : (w.alloc (.cells #[.int .i64 o, .int .i64 n, .string x, .slice ao m cap] 58)).heap.size = w.heap.size + 1 := by simp
    have TG : Hid (∀ ao n c T w, RdS w ao n c T → (n + 2) * 16 ≤ 140737488355328 → Calls Try.prog 29 #[.slice ao n c] w fun e w' => ∃ v, e = .returned v ∧ w'.ownsRow w.heap.size 9 1 v (togL T).length (cellsS (togL T)) ∧ Below w.heap.size w w') := fun ao n c T w h hn => rtogether_at ao n c T w h hn
    have HLen : Hid (∀ k, (namesTL (a.take k)).length ≤ 1000) := fun k => by
      have h1 := namesTL_len (l := a.take k) (fun t _ => namesT_len t)
      have h2 := Tm.sizeL_take a k
      omega
    generalize hW1 : w.alloc (.cells #[.int .i64 o, .int .i64 n, .string x, .slice ao m cap] 58) = W1 at hbx hb1 hs1
    go_enter Try.func28, Try.ntmps28
    go_wp2
    clear hW1
    go_loopw [3, 4] (fun out i wr => ∃ k : Nat, k ≤ m ∧ i = .int .i64 k ∧ wr.ownsRow W1.heap.size 9 1 out (namesTL (a.take k)).length (cellsS (namesTL (a.take k))) ∧ Below W1.heap.size W1 wr) (fun _ i _ => m - (intOf i).toNat)
    case atStart => exact ⟨0, Nat.zero_le _, rfl, by rw [List.take_zero, namesTL]; exact ⟨rfl, .inl ⟨rfl, rfl⟩⟩, Below.refl _ _⟩
    case round =>
      obtain ⟨k, hk, rfl, hO, hBr⟩ := hrel
      have b1 := (hBr.cell (p := ⟨w.heap.size, 3, none⟩) (by simp; omega)).trans (hbx 3)
      have hbw := bt2 hb1 hBr
      have hWr : Below W.heap.size W wr := hW.trans (hbw.mono hWs)
      have hln := HLen.out k
      by_cases hlt : k < m
      · have hka : k < a.length := by omega
        obtain ⟨g, of, d0, d1, d2, d3, rfl, hg, q0, q1, q2, q3, hrd⟩ := hL.get k hka
        rw [Nat.zero_add] at q0 q1 q2 q3
        have hsk : (a[k]).size ≤ 1000 := by have := Tm.size_mem (List.getElem_mem hka); omega
        have RC : Hid (Calls Try.prog 28 #[.agg #[d0, d1, d2, d3]] wr fun e w' => ∃ v', e = .returned v' ∧ w'.ownsRow wr.heap.size 9 1 v' (namesT a[k]).length (cellsS (namesT a[k])) ∧ Below wr.heap.size wr w') := IH.out a[k] (List.getElem_mem hka) _ wr ⟨_, _, _, _, rfl, hrd⟩ hWr hsk
        have p0 := (hWr.cell (p := ⟨g, of + k * 4, none⟩) hg).trans q0
        have p1 := (hWr.cell (p := ⟨g, of + k * 4 + 1, none⟩) hg).trans q1
        have p2 := (hWr.cell (p := ⟨g, of + k * 4 + 2, none⟩) hg).trans q2
        have p3 := (hWr.cell (p := ⟨g, of + k * 4 + 3, none⟩) hg).trans q3
        have HTk : Hid (namesTL (a.take (k + 1)) = namesTL (a.take k) ++ namesT a[k]) := namesTL_take a k hka
        have hnk := namesT_len a[k]
        generalize namesT a[k] = D at *
        generalize namesTL (a.take k) = O at *
        clear IH q0 q1 q2 q3 hrd HLen TG
        go_wp2_with (first
          | (go_at_call 28; refine RC.out.mono ?_; rintro e w2 ⟨v2, rfl, hO2, hB2⟩; obtain ⟨ro, cr, rfl, hR2⟩ := rds_of_owns hO2; have hOk := owns_below hO hB2)
          | (at_builtin; refine wp_joinS W1 _ W1.heap.size W1.heap.size rfl (.tmp 18) (.tmp 24) rfl _ O.length O rfl ro D.length cr D rfl hOk hR2 (by have := hBr.size; have := hB2.size; omega) (by omega) (bt2 hBr hB2) (Nat.le_refl _) ?_; intro v3 w3 hO3 hB3 hg3))
        go_roundw
        case rel => exact ⟨k + 1, by omega, by go_num, by rw [HTk.out, List.length_append]; exact hO3, hB3⟩
        case measure => simp [intOf]; omega
      · obtain rfl : k = m := by omega
        have htk : a.take k = a := List.take_of_length_le (by omega)
        rw [htk] at hO hln
        obtain ⟨O, hOe⟩ : ∃ O, namesTL a = O := ⟨_, rfl⟩
        rw [hOe] at hO hln
        have HO : Hid (namesTL a = O) := hOe
        clear hOe
        obtain ⟨ro, cr, rfl, hR⟩ := rds_of_owns hO
        have hlt' : decide (k < k) = false := decide_eq_false (by omega)
        clear IH HLen hO
        go_wp2_with (go_at_call 29; refine (TG.out _ _ _ _ _ hR (by omega)).mono ?_; rintro e w2 ⟨v2, rfl, hO2, hB2⟩)
        go_ret
        exact ⟨_, rfl, by rw [HO.out]; exact owns_mono hO2 hbw.size, bt2 hbw hB2⟩
end Go.Proofs.Ytiihabecncnbcaa.Gl
