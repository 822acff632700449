/- The document's digits and letters: Digit, Insert, Remove. -/
import Derived.Test.YtholafecbmhhhaaDigA
namespace Go.Proofs.Ytholafecbmhhhaa.Dg
open Go.RowKit
set_option linter.unusedVariables false

theorem below_at (x n : Int) (r : Bool) (w : World) (h : decide (0 ≤ x ∧ x < n) = r) :
    Calls Try.prog 50 #[.int .i64 x, .int .i64 n] w fun e w' => e = .returned (.bool r) ∧ w = w' := by
  subst h
  by_cases h1 : 0 ≤ x
  · by_cases h2 : x < n
    · rw [decide_eq_true ⟨h1, h2⟩]
      go_enter Try.func50, Try.ntmps50
      go_wp2
      go_ret
      exact ⟨rfl, rfl⟩
    · rw [decide_eq_false (fun h => h2 h.2)]
      go_enter Try.func50, Try.ntmps50
      go_wp2
      go_ret
      exact ⟨rfl, rfl⟩
  · rw [decide_eq_false (fun h => h1 h.1)]
    go_enter Try.func50, Try.ntmps50
    go_wp2
    go_ret
    exact ⟨rfl, rfl⟩

/-- 'out = append(out, x...)', x read as the numbers E from the address ad on -/
theorem wp_appI {ops : Array Oper} {rest : List Oper} {o : Oper} {a : Act} {Q : Exit → Act → World → Prop} (W0 Wc : World) (B base : Nat) (hgd : o.guard = none) (s x : Operand)
    (ho : o.op = .call { callee := .builtin .append, args := #[s, x], argTypes := #[54, 54] }) (v : Value) (k : Nat) (O : List Nat) (hs : a.eval s = v) (ad : Addr) (m c : Nat) (E : List Nat) (hx : a.eval x = .slice (some ad) m c)
    (hown : Wc.ownsRow base 3 1 v k (cellsI O)) (hm : E.length = m) (hcells : ∀ j, j < m → Wc.cell? (ad.add j) = some (.int .i64 ((E.getD j 0 : Nat) : Int))) (hbase : base ≤ Wc.heap.size) (hk : k + m ≤ 1000000) (hbel : Below B W0 Wc) (hB : B ≤ base)
    (h : ∀ v' w', w'.ownsRow base 3 1 v' (k + m) (cellsI (O ++ E)) → Below B W0 w' → wpList Try.prog ops Q rest (a.put o.dst v') w') : wpList Try.prog ops Q (o :: rest) a Wc := by
  obtain ⟨i0, hi, hz0, hz1, hz2⟩ := info_parts Try.infoInt
  refine wpList_append_own _ hgd s x 54 ho base 3 i0 (.int .i64 0) 1 8 Try.underlying54 hi hz0 hz1 hz2 rfl (by decide) _ k _ hs hown ad m c (cellsI E) hx (by simp [hm]) ?_ ?_ (by unfold maxLen; omega) (by omega) hbase ?_
  · intro j u hj
    rw [List.getElem?_map] at hj
    by_cases hjl : j < E.length
    · rw [List.getElem?_eq_getElem hjl] at hj
      simp only [Option.map_some, Option.some.injEq] at hj
      subst hj
      have h1 := hcells j (by omega)
      rw [List.getD_eq_getElem?_getD, List.getElem?_eq_getElem hjl] at h1
      exact h1
    · rw [List.getElem?_eq_none (by omega)] at hj
      simp at hj
  · intro u hu
    obtain ⟨_, _, rfl⟩ := List.mem_map.1 hu
    rfl
  · intro v' w' h1 h2 _
    refine h v' w' (by simpa [cellsI] using h1) (hbel.grown h2 (by omega) ?_)
    intro q hq
    have := hown.lt q hq
    omega

theorem digit_none (x t : Int) (w : World) (h : x < 0 ∨ t < 0 ∨ 61 < t) :
    Calls Try.prog 36 #[.int .i64 x, .int .i64 t] w fun e w' => e = .returned (.int .i64 0) ∧ w = w' := by
  by_cases h1 : x < 0
  · go_enter Try.func36, Try.ntmps36
    go_wp2
    go_ret
    exact ⟨rfl, rfl⟩
  · by_cases h2 : t < 0
    · go_enter Try.func36, Try.ntmps36
      go_wp2
      go_ret
      exact ⟨rfl, rfl⟩
    · have h3 : 61 < t := by omega
      go_enter Try.func36, Try.ntmps36
      go_wp2
      go_ret
      exact ⟨rfl, rfl⟩

theorem digits_row (L n : Nat) (w : World) (hL : L ≤ 9223372036854775807) (hn : n ≤ 1000) (hp : 0 < n) :
    Calls Try.prog 51 #[.int .i64 L, .int .i64 n] w fun e w' => ∃ b off cr, e = .returned (.slice (some ⟨b, off, none⟩) n cr) ∧ n ≤ cr ∧ cr ≤ 9223372036854775807 ∧ Hid (∀ i, i < n → w'.cell? ⟨b, off + i, none⟩ = some (.int .i64 ((L / 2 ^ i % 2 : Nat) : Int))) ∧ w.heap.size ≤ b ∧ Below w.heap.size w w' := by
  refine (digits_at L n w hL hn).mono ?_
  rintro e w' ⟨v, rfl, hown, hB⟩
  obtain ⟨ro, cr, rfl, hR⟩ := rd_of_owns hown
  obtain ⟨b, off, rfl, hc⟩ := hR.cell 0 hp
  refine ⟨b, off, cr, rfl, hR.lecap, hR.lemax, fun i hi => ?_, (hown.lt b rfl).1, hB⟩
  obtain ⟨b', off', he, hc'⟩ := hR.cell i hi
  simp only [Option.some.injEq, Addr.mk.injEq, and_true] at he
  obtain ⟨rfl, rfl⟩ := he
  rw [hc', digs_get L n i hi]

set_option maxHeartbeats 400000 in
theorem digit_in (L t : Nat) (w : World) (hL : L ≤ 9223372036854775807) (ht : t ≤ 61) :
    Calls Try.prog 36 #[.int .i64 L, .int .i64 t] w fun e w' => e = .returned (.int .i64 ((L / 2 ^ t % 2 : Nat) : Int)) ∧ Below w.heap.size w w' := by
  obtain ⟨d, hd⟩ : ∃ d, L / 2 ^ t % 2 = d := ⟨_, rfl⟩
  rw [hd]
  have HD : Hid (L / 2 ^ t % 2 = d) := hd
  clear hd
  go_enter Try.func36, Try.ntmps36
  go_wp2_with (go_at_call 51; refine (digits_row L 62 _ hL (by omega) (by omega)).mono ?_; rintro e w1 ⟨b, off, cr, rfl, hcr, hcm, hc, hbb, hB⟩; have hct := hc.out t (by omega); rw [HD.out] at hct)
  go_ret
  exact ⟨rfl, hB⟩

/-- the letter with a digit more, with one fewer -/
def ins (L t d : Nat) : Nat := L % 2 ^ t + 2 ^ t * (d + 2 * (L / 2 ^ t))
def rem (L t : Nat) : Nat := L % 2 ^ t + 2 ^ t * (L / 2 ^ (t + 1))
theorem num_ins (L t d : Nat) (ht : t ≤ 5) (hL : L < 32) : num (digs L t ++ [d] ++ (digs L 5).drop t) = ins L t d := by
  rw [List.append_assoc, num_append, digs_length, num_digs, List.singleton_append]
  simp only [num]
  rw [num_digs_drop L 5 t ht hL]
  rfl
theorem num_rem (L t : Nat) (ht : t ≤ 5) (hL : L < 64) : num (digs L t ++ (digs L 6).drop (t + 1)) = rem L t := by
  rw [num_append, digs_length, num_digs, num_digs_drop L 6 (t + 1) (by omega) hL]
  rfl

theorem take_cells {w : World} {b off n t L : Nat} (h : ∀ i, i < n → w.cell? ⟨b, off + i, none⟩ = some (.int .i64 ((L / 2 ^ i % 2 : Nat) : Int))) (ht : t ≤ n) (o : Obj) :
    ∀ j, j < t → (w.alloc o).cell? ((⟨b, off, none⟩ : Addr).add j) = some (.int .i64 (((digs L t).getD j 0 : Nat) : Int)) := by
  intro j hj
  have h1 := h j (by omega)
  rw [Go.WideShapes.add_plain, World.cell?_of_block (Below.heap_alloc _ _ _ (World.block_lt_of_cell? _ _ h1)), h1, digs_get L t j hj]
theorem drop_cells {w w' : World} {b off n t L : Nat} (h : ∀ i, i < n → w.cell? ⟨b, off + i, none⟩ = some (.int .i64 ((L / 2 ^ i % 2 : Nat) : Int))) (ht : t ≤ n) (hb : Below w.heap.size w w') :
    ∀ j, j < n - t → w'.cell? ((⟨b, off + t, none⟩ : Addr).add j) = some (.int .i64 ((((digs L n).drop t).getD j 0 : Nat) : Int)) := by
  intro j hj
  have h1 := h (t + j) (by omega)
  have e : ((digs L n).drop t).getD j 0 = L / 2 ^ (t + j) % 2 := by
    rw [List.getD_eq_getElem?_getD, List.getElem?_drop, ← List.getD_eq_getElem?_getD, digs_get L n (t + j) (by omega)]
  rw [Go.WideShapes.add_plain, Nat.add_assoc, hb.cell (World.block_lt_of_cell? _ _ h1), h1, e]

set_option maxHeartbeats 1000000 in
theorem insert_lt (L t d : Nat) (w : World) (hL : L < 32) (ht : t < 5) (hd : d ≤ 1) :
    Calls Try.prog 32 #[.int .i64 L, .int .i64 t, .int .i64 d] w fun e w' => e = .returned (.tuple #[.int .i64 (ins L t d : Nat), .int .i64 0]) ∧ Below w.heap.size w w' := by
  have hfin : Hid (num (digs L t ++ [d] ++ (digs L 5).drop t) = ins L t d) := num_ins L t d (by omega) hL
  have hbit : Hid (∀ x ∈ digs L t ++ [d] ++ (digs L 5).drop t, x ≤ 1) := by
    intro x hx
    simp only [List.mem_append, List.mem_singleton] at hx
    rcases hx with (hx | hx) | hx
    · exact digs_bit L t x hx
    · omega
    · exact digs_bit L 5 x (List.mem_of_mem_drop hx)
  go_enter Try.func32, Try.ntmps32
  go_wp2_with (first
    | (go_at_call 50; refine (below_at _ _ true _ (decide_eq_true ⟨by omega, by omega⟩)).mono ?_; rintro e w' ⟨rfl, rfl⟩)
    | (go_at_call 51; refine (digits_row L 5 _ (by omega) (by omega) (by omega)).mono ?_; rintro e w1 ⟨b, off, cr, rfl, hcr, hcm, hc, hbb, hB⟩)
    | (at_builtin; refine wp_appI w1 _ w1.heap.size w1.heap.size rfl (.tmp 25) (.tmp 28) rfl _ 0 [] rfl ⟨b, off, none⟩ t _ (digs L t) rfl (World.ownsRow_made _ #[] 0 (Nat.le_refl _) (Nat.zero_le _) (by simp)) (digs_length L t) (take_cells hc.out (by omega) _) (by simp) (by omega) ((Below.refl _ _).alloc (Nat.le_refl _) _) (Nat.le_refl _) ?_; intro v2 w2 hown2 hB2; simp only [Nat.zero_add, List.nil_append] at hown2)
    | (at_builtin; refine wp_pushI w1 _ w1.heap.size w1.heap.size rfl (.tmp 30) (.tmp 32) rfl _ t (digs L t) rfl w2.heap.size d _ rfl (hown2.alloc _) (cell_new1 _ _ _) rfl (size_new1 hB2.size _) (by omega) (hB2.alloc hB2.size _) (Nat.le_refl _) ?_; intro v3 w3 hown3 hB3)
    | (at_builtin; refine wp_appI w1 _ w1.heap.size w1.heap.size rfl (.tmp 34) (.tmp 37) rfl _ (t + 1) (digs L t ++ [d]) rfl ⟨b, off + t, none⟩ (5 - t) _ ((digs L 5).drop t) rfl hown3 (by rw [List.length_drop, digs_length]) (drop_cells hc.out (by omega) hB3) hB3.size (by omega) hB3 (Nat.le_refl _) ?_; intro v4 w4 hown4 hB4; obtain ⟨ro, rc, hv4, hR4⟩ := rd_of_owns hown4; rw [hv4]; clear hv4)
    | (go_at_call 52; refine (letter_at _ _ _ _ _ hR4 (by omega) hbit.out).mono ?_; rintro e w' ⟨rfl, rfl⟩))
  go_ret2
  exact ⟨congrArg (fun n : Nat => Ending.returned (.tuple #[.int .i64 (n : Int), .int .i64 0])) (by simpa using hfin.out), hB.trans (hB4.mono hB.size)⟩

set_option maxHeartbeats 1000000 in
theorem insert_5 (L t d : Nat) (w : World) (hL : L < 32) (ht : t ≤ 5) (ht5 : 5 ≤ t) (hd : d ≤ 1) :
    Calls Try.prog 32 #[.int .i64 L, .int .i64 t, .int .i64 d] w fun e w' => e = .returned (.tuple #[.int .i64 (ins L t d : Nat), .int .i64 0]) ∧ Below w.heap.size w w' := by
  have hfin : Hid (num (digs L t ++ [d]) = ins L t d) := by
    have h := num_ins L t d (by omega) hL
    rw [List.drop_of_length_le (by rw [digs_length]; exact ht5), List.append_nil] at h
    exact h
  have hbit : Hid (∀ x ∈ digs L t ++ [d], x ≤ 1) := by
    intro x hx
    simp only [List.mem_append, List.mem_singleton] at hx
    rcases hx with hx | hx
    · exact digs_bit L t x hx
    · omega
  go_enter Try.func32, Try.ntmps32
  go_wp2_with (first
    | (go_at_call 50; refine (below_at _ _ true _ (decide_eq_true ⟨by omega, by omega⟩)).mono ?_; rintro e w' ⟨rfl, rfl⟩)
    | (go_at_call 51; refine (digits_row L 5 _ (by omega) (by omega) (by omega)).mono ?_; rintro e w1 ⟨b, off, cr, rfl, hcr, hcm, hc, hbb, hB⟩)
    | (at_builtin; refine wp_appI w1 _ w1.heap.size w1.heap.size rfl (.tmp 25) (.tmp 28) rfl _ 0 [] rfl ⟨b, off, none⟩ t _ (digs L t) rfl (World.ownsRow_made _ #[] 0 (Nat.le_refl _) (Nat.zero_le _) (by simp)) (digs_length L t) (take_cells hc.out (by omega) _) (by simp) (by omega) ((Below.refl _ _).alloc (Nat.le_refl _) _) (Nat.le_refl _) ?_; intro v2 w2 hown2 hB2; simp only [Nat.zero_add, List.nil_append] at hown2)
    | (at_builtin; refine wp_pushI w1 _ w1.heap.size w1.heap.size rfl (.tmp 30) (.tmp 32) rfl _ t (digs L t) rfl w2.heap.size d _ rfl (hown2.alloc _) (cell_new1 _ _ _) rfl (size_new1 hB2.size _) (by omega) (hB2.alloc hB2.size _) (Nat.le_refl _) ?_; intro v3 w3 hown3 hB3)
    | (at_builtin; have _t := hB3; rcases Decidable.em (cr = t) with hct | hct <;> first | (simp only [if_pos hct]; refine wp_appI w1 _ w1.heap.size w1.heap.size rfl (.tmp 34) (.tmp 37) rfl _ (t + 1) (digs L t ++ [d]) rfl ⟨b, off, none⟩ 0 _ [] rfl hown3 rfl (fun j hj => absurd hj (by omega)) hB3.size (by omega) hB3 (Nat.le_refl _) ?_; intro v4 w4 hown4 hB4; rw [List.append_nil] at hown4; obtain ⟨ro, rc, hv4, hR4⟩ := rd_of_owns hown4; rw [hv4]; clear hv4) | (simp only [if_neg hct]; refine wp_appI w1 _ w1.heap.size w1.heap.size rfl (.tmp 34) (.tmp 37) rfl _ (t + 1) (digs L t ++ [d]) rfl ⟨b, off + t, none⟩ 0 _ [] rfl hown3 rfl (fun j hj => absurd hj (by omega)) hB3.size (by omega) hB3 (Nat.le_refl _) ?_; intro v4 w4 hown4 hB4; rw [List.append_nil] at hown4; obtain ⟨ro, rc, hv4, hR4⟩ := rd_of_owns hown4; rw [hv4]; clear hv4))
    | (go_at_call 52; refine (letter_at _ _ _ _ _ hR4 (by omega) hbit.out).mono ?_; rintro e w' ⟨rfl, rfl⟩))
  all_goals
    go_ret2
    exact ⟨congrArg (fun n : Nat => Ending.returned (.tuple #[.int .i64 (n : Int), .int .i64 0])) (by simpa using hfin.out), hB.trans (hB4.mono hB.size)⟩

end Go.Proofs.Ytholafecbmhhhaa.Dg
