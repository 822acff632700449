/- Layer 3: Digits, Number. -/
import Derived.Test.YtkanjgphmafjbaaWoB
namespace Go.Proofs.Ytkanjgphmafjbaa.Wo
open Go.RowKit
set_option linter.unusedVariables false

set_option maxHeartbeats 1000000 in
theorem digits_in (v : Int) (n : Nat) (w : World) (l : -9223372036854775808 ≤ v) (u : v ≤ 9223372036854775807) (hn : ln v ≤ n) (hn' : n ≤ 64) :
    Calls Try.prog 9 #[.int .i64 v, .int .i64 n] w fun e w' => ∃ g, e = .returned (.tuple #[.slice (some ⟨g, 0, none⟩) n n, .int .i64 0]) ∧ w.heap.size ≤ g ∧ w'.ownsRow w.heap.size 3 1 (.slice (some ⟨g, 0, none⟩) n n) n (cellsZ (dgs v n)) ∧ Below w.heap.size w w' := by
  obtain ⟨ii, hi, hi0, hi1, hi2⟩ := info_parts Try.infoInt
  go_enter Try.func9, Try.ntmps9
  go_wp2_with (first
    | (go_at_call 14; refine (length_at v _ l u).mono ?_; rintro e w' ⟨rfl, rfl⟩)
    | (at_make; refine wpList_make_full _ rfl _ _ 22 rfl w.heap.size 3 ii (.int .i64 0) 1 Try.underlying22 hi hi0 hi1 _ _ _ _ n rfl rfl rfl rfl (by rw [hi2]; omega) (by unfold maxLen; omega) (Nat.le_refl _) ?_; intro w2 hown2 hg2; rw [made_zeros] at hown2))
  have hB2 : Below w.heap.size w w2 := (Below.refl _ _).grown hg2 (Nat.le_refl _) (fun k h => by cases h)
  go_loopw [20] (fun i wr => ∃ k : Nat, k ≤ n ∧ i = .int .i64 k ∧ wr.ownsRow w.heap.size 3 1 (.slice (some ⟨w.heap.size, 0, none⟩) n n) n (cellsZ (front (dgs v n) (List.replicate n 0) k)) ∧ Below w.heap.size w wr) (fun i _ => n - (intOf i).toNat)
  case atStart => exact ⟨0, Nat.zero_le _, rfl, by rw [front_zero]; exact hown2, hB2⟩
  case round =>
    clear hg2 hown2 hB2
    obtain ⟨k, hk, rfl, hO, hB⟩ := hrel
    by_cases hlt : k < n
    · have hoc := ownsZ_cell hO k hlt
      have hof := hO.frozenAt k
      have hO2 := (hO.stored k (.int .i64 (dgt v k))).1
      rw [cells_set, ← dgs_get v n k hlt, front_set _ _ _ (by rw [dgs_length, List.length_replicate]) (by rw [dgs_length]; exact hlt), dgs_get v n k hlt] at hO2
      have HO : Hid _ := hO2
      have hB2 := hB.setCell (p := ⟨w.heap.size, k, none⟩) (Nat.le_refl _) (.int .i64 (dgt v k))
      clear hO2
      go_wp2_with (go_at_call 30; refine (digitOf_at v k _ (by omega)).mono ?_; rintro e w' ⟨rfl, rfl⟩)
      go_roundw
      case rel =>
        go_light
        exact ⟨k + 1, by omega, by go_num, HO.out, hB2⟩
      case measure => simp [intOf]; omega
    · obtain rfl : k = n := by omega
      rw [front_all _ _ k (dgs_length _ _) (by rw [List.length_replicate])] at hO
      go_wp2
      go_ret2
      exact ⟨_, rfl, Nat.le_refl _, hO, hB⟩
theorem digits_no (v n : Int) (w : World) (l : -9223372036854775808 ≤ v) (u : v ≤ 9223372036854775807) (hn : n < ln v ∨ 64 < n) :
    Calls Try.prog 9 #[.int .i64 v, .int .i64 n] w fun e w' => e = .returned (.tuple #[.slice none 0 0, .int .i64 2]) ∧ w = w' := by
  by_cases h : n < ln v
  · clear hn
    go_enter Try.func9, Try.ntmps9
    go_wp2_with (go_at_call 14; refine (length_at v _ l u).mono ?_; rintro e w' ⟨rfl, rfl⟩)
    go_ret2
    exact ⟨rfl, rfl⟩
  · have h2 : 64 < n := by omega
    clear hn
    go_enter Try.func9, Try.ntmps9
    go_wp2_with (go_at_call 14; refine (length_at v _ l u).mono ?_; rintro e w' ⟨rfl, rfl⟩)
    go_ret2
    exact ⟨rfl, rfl⟩
theorem isNoDigit_at (x : Int) (r : Bool) (w : World) (h : r = false ↔ x = 0 ∨ x = 1) :
    Calls Try.prog 32 #[.int .i64 x] w fun e w' => e = .returned (.bool r) ∧ w = w' := by
  by_cases h0 : x = 0
  · have HE : Hid (r = false) := h.2 (.inl h0)
    subst h0
    clear h
    go_enter Try.func32, Try.ntmps32
    go_wp2
    go_ret
    exact ⟨retb HE.out.symm, rfl⟩
  · by_cases h1 : x = 1
    · have HE : Hid (r = false) := h.2 (.inr h1)
      subst h1
      clear h h0
      go_enter Try.func32, Try.ntmps32
      go_wp2
      go_ret
      exact ⟨retb HE.out.symm, rfl⟩
    · have HE : Hid (r = true) := by
        cases r with
        | true => rfl
        | false => rcases h.1 rfl with e | e <;> contradiction
      have HX : Hid (x ≠ 0 ∧ x ≠ 1) := ⟨h0, h1⟩
      clear h h0 h1
      go_enter Try.func32, Try.ntmps32
      go_wp2
      all_goals go_ret
      all_goals exact ⟨retb (by rw [HE.out]; have := HX.out; first | (exfalso; omega) | simp [this.1, this.2]), rfl⟩
set_option maxHeartbeats 1000000 in
theorem indexFunc_at (ao : Option Addr) (len cap : Nat) (zs : List Int) (w : World) (h : RdZ w ao len cap zs) :
    Calls Try.prog 44 #[.slice ao len cap, .func (.func 32) #[] #[]] w fun e w' => ∃ r : Int, e = .returned (.int .i64 r) ∧ (Bin zs → r = -1) ∧ (¬ Bin zs → 0 ≤ r) ∧ w = w' := by
  have hcap := h.lecap
  have hmax := h.lemax
  have HL : Hid (zs.length = len) := h.eqlen
  go_enter Try.func44, Try.ntmps44
  go_wp2
  go_loop [8] (fun i => ∃ k : Nat, k ≤ len ∧ i = .int .i64 k ∧ Hid (∀ j, j < k → zs.getD j 0 = 0 ∨ zs.getD j 0 = 1)) (fun i => len - (intOf i).toNat)
  case atStart => exact ⟨0, Nat.zero_le _, rfl, fun j hj => absurd hj (by omega)⟩
  case round =>
    obtain ⟨k, hk, rfl, hall⟩ := hrel
    by_cases hlt : k < len
    · obtain ⟨b, off, rfl, hc⟩ := h.cell k hlt
      by_cases hd : zs.getD k 0 = 0 ∨ zs.getD k 0 = 1
      · have HD : Hid (zs.getD k 0 = 0 ∨ zs.getD k 0 = 1) := hd
        clear hd
        go_wp2_with (go_at_call 32; refine (isNoDigit_at _ false _ ⟨fun _ => HD.out, fun _ => rfl⟩).mono ?_; rintro e w' ⟨rfl, rfl⟩)
        go_round
        case rel =>
          refine ⟨k + 1, by omega, by go_num, fun j hj => ?_⟩
          rcases Nat.lt_succ_iff_lt_or_eq.1 hj with hj | rfl
          · exact hall.out j hj
          · exact HD.out
        case measure => simp [intOf]; omega
      · have HD : Hid (¬ (zs.getD k 0 = 0 ∨ zs.getD k 0 = 1)) := hd
        clear hd
        have HB : Hid (¬ Bin zs) := fun hb => HD.out (by rw [getD_of (by rw [HL.out]; exact hlt)]; exact hb _ (List.getElem_mem _))
        go_wp2_with (go_at_call 32; refine (isNoDigit_at _ true _ ⟨fun e => (by cases e), fun e => absurd e HD.out⟩).mono ?_; rintro e w' ⟨rfl, rfl⟩)
        go_ret
        exact ⟨_, rfl, fun hb => absurd hb HB.out, fun _ => by omega, rfl⟩
    · obtain rfl : k = len := by omega
      have HB : Hid (Bin zs) := by
        intro z hz
        obtain ⟨i, hi, rfl⟩ := List.getElem_of_mem hz
        have := hall.out i (by rw [← HL.out]; exact hi)
        rwa [getD_of hi] at this
      go_wp2
      go_ret
      exact ⟨_, rfl, fun _ => rfl, fun hb => absurd HB.out hb, rfl⟩
theorem containsFunc_at (ao : Option Addr) (len cap : Nat) (zs : List Int) (r : Bool) (w : World) (h : RdZ w ao len cap zs) (hr : r = false ↔ Bin zs) :
    Calls Try.prog 31 #[.slice ao len cap, .func (.func 32) #[] #[]] w fun e w' => e = .returned (.bool r) ∧ w = w' := by
  cases r with
  | false =>
    have HB : Hid (Bin zs) := hr.1 rfl
    clear hr
    go_enter Try.func31, Try.ntmps31
    go_wp2_with (go_at_call 44; refine (indexFunc_at _ _ _ zs _ h).mono ?_; rintro e w' ⟨r, rfl, h1, _, rfl⟩; obtain rfl := h1 HB.out)
    go_ret
    exact ⟨rfl, rfl⟩
  | true =>
    have HB : Hid (¬ Bin zs) := fun hb => by have := hr.2 hb; cases this
    clear hr
    go_enter Try.func31, Try.ntmps31
    go_wp2_with (go_at_call 44; refine (indexFunc_at _ _ _ zs _ h).mono ?_; rintro e w' ⟨r, rfl, _, h1, rfl⟩; have h2 := h1 HB.out; clear h1)
    go_ret
    exact ⟨rfl, rfl⟩
theorem number_none (ao : Option Addr) (cap : Nat) (w : World) :
    Calls Try.prog 10 #[.slice ao 0 cap] w fun e w' => e = .returned (.tuple #[.int .i64 0, .int .i64 3]) ∧ w = w' := by
  go_enter Try.func10, Try.ntmps10
  go_wp2
  go_ret2
  exact ⟨rfl, rfl⟩
theorem number_shape (ao : Option Addr) (len cap : Nat) (zs : List Int) (w : World) (h : RdZ w ao len cap zs) (hb : ¬ Bin zs) :
    Calls Try.prog 10 #[.slice ao len cap] w fun e w' => e = .returned (.tuple #[.int .i64 0, .int .i64 3]) ∧ w = w' := by
  have HB : Hid (¬ Bin zs) := hb
  have hcap := h.lecap
  have hmax := h.lemax
  have h0 : 0 < len := by
    rcases Nat.eq_zero_or_pos len with e | e
    · exfalso
      apply hb
      have : zs = [] := List.length_eq_zero_iff.1 (by rw [h.eqlen, e])
      rw [this]; intro z hz; cases hz
    · exact e
  have h0' : ((len : Int) == 0) = false := by simp; omega
  clear hb
  go_enter Try.func10, Try.ntmps10
  go_wp2_with (go_at_call 31; refine (containsFunc_at _ _ _ zs true _ h ⟨fun e => (by cases e), fun e => absurd e HB.out⟩).mono ?_; rintro e w' ⟨rfl, rfl⟩)
  go_ret2
  exact ⟨rfl, rfl⟩
theorem number_wide (ao : Option Addr) (len cap : Nat) (zs : List Int) (w : World) (h : RdZ w ao len cap zs) (hb : Bin zs) (h64 : 64 < len) :
    Calls Try.prog 10 #[.slice ao len cap] w fun e w' => e = .returned (.tuple #[.int .i64 0, .int .i64 31]) ∧ w = w' := by
  have HB : Hid (Bin zs) := hb
  have hcap := h.lecap
  have hmax := h.lemax
  have h0' : ((len : Int) == 0) = false := by simp; omega
  clear hb
  go_enter Try.func10, Try.ntmps10
  go_wp2_with (go_at_call 31; refine (containsFunc_at _ _ _ zs false _ h ⟨fun _ => HB.out, fun _ => rfl⟩).mono ?_; rintro e w' ⟨rfl, rfl⟩)
  go_ret2
  exact ⟨rfl, rfl⟩
theorem tc_small (zs : List Int) (n j : Nat) (hb : Bin zs) (h : zs.length = n + 1) (hn : n + 1 ≤ 64) (hj : j < n) : -4611686018427387904 ≤ tc (zs.drop (j + 1)) ∧ tc (zs.drop (j + 1)) ≤ 4611686018427387903 := by
  have := tc_bd (zs.drop (j + 1)) (n - (j + 1)) (fun z hz => hb z (List.mem_of_mem_drop hz)) (by rw [List.length_drop]; omega)
  have hp : (2 : Int) ^ (n - (j + 1)) ≤ 2 ^ 62 := by
    have : 2 ^ (n - (j + 1)) ≤ 2 ^ 62 := Nat.pow_le_pow_right (by omega) (by omega)
    have e : ((2 ^ (n - (j + 1)) : Nat) : Int) = 2 ^ (n - (j + 1)) := by simp
    omega
  have : (2 : Int) ^ 62 = 4611686018427387904 := by decide
  omega
set_option maxHeartbeats 1000000 in
theorem number_in (ao : Option Addr) (len cap : Nat) (zs : List Int) (w : World) (h : RdZ w ao len cap zs) (hb : Bin zs) (h0 : 0 < len) (h64 : len ≤ 64) :
    Calls Try.prog 10 #[.slice ao len cap] w fun e w' => e = .returned (.tuple #[.int .i64 (tc zs), .int .i64 0]) ∧ w = w' := by
  obtain ⟨n, rfl⟩ : ∃ n, len = n + 1 := ⟨len - 1, by omega⟩
  have HB : Hid (Bin zs) := hb
  have HL : Hid (zs.length = n + 1) := h.eqlen
  have hcap := h.lecap
  have hmax := h.lemax
  have h0' : (((n + 1 : Nat) : Int) == 0) = false := by simp; omega
  have h1' : ((n + 1 : Nat) : Int) - 1 = (n : Int) := by omega
  obtain ⟨b, off, rfl, hc⟩ := h.cell n (by omega)
  have hl := tc_last zs n HL.out
  have HT : Hid (tc (zs.drop n) = -zs.getD n 0) := hl
  have hz : 0 ≤ zs.getD n 0 ∧ zs.getD n 0 ≤ 1 := by
    have := HB.out (zs.getD n 0) (by rw [getD_of (by rw [HL.out]; omega)]; exact List.getElem_mem _)
    omega
  obtain ⟨hz0, hz1⟩ := hz
  clear hb hl
  generalize hy : zs.getD n 0 = y at *
  clear hy
  go_enter Try.func10, Try.ntmps10
  go_wp2_with (go_at_call 31; refine (containsFunc_at _ _ _ zs false _ h ⟨fun _ => HB.out, fun _ => rfl⟩).mono ?_; rintro e w' ⟨rfl, rfl⟩)
  go_loop [5, 6] (fun v i => ∃ m : Nat, m ≤ n ∧ i = .int .i64 ((m : Int) - 1) ∧ v = .int .i64 (tc (zs.drop m))) (fun _ i => (intOf i + 1).toNat)
  case atStart => exact ⟨n, Nat.le_refl _, by go_num, by rw [HT.out]⟩
  case round =>
    clear hc
    obtain ⟨m, hm, rfl, rfl⟩ := hrel
    rcases m with _ | j
    · go_wp2
      go_ret2
      exact ⟨rfl, rfl⟩
    · rw [show ((j + 1 : Nat) : Int) - 1 = (j : Int) from by omega]
      obtain ⟨b', off', e', hc⟩ := h.cell j (by omega)
      obtain ⟨rfl, rfl⟩ : b = b' ∧ off = off' := by simpa using e'
      have hs := tc_small zs n j HB.out HL.out h64 (by omega)
      obtain ⟨hs0, hs1⟩ := hs
      have HD : Hid (tc (zs.drop j) = zs.getD j 0 + 2 * tc (zs.drop (j + 1))) := tc_drop zs j (by rw [HL.out]; omega)
      have hx : 0 ≤ zs.getD j 0 ∧ zs.getD j 0 ≤ 1 := by
        have := HB.out (zs.getD j 0) (by rw [getD_of (by rw [HL.out]; omega)]; exact List.getElem_mem _)
        omega
      obtain ⟨hx0, hx1⟩ := hx
      clear e'
      generalize hxx : zs.getD j 0 = x at *
      generalize hyy : tc (zs.drop (j + 1)) = u at *
      clear hxx hyy
      go_wp2
      go_round
      case rel => exact ⟨j, by omega, by go_num, congrArg (Value.int .i64) (by rw [HD.out]; omega)⟩
      case measure => simp [intOf]
/-- 'out = append(out, d)', the new element in a block g of its own -/
theorem wp_pushQ {ops : Array Oper} {rest : List Oper} {o : Oper} {a : Act} {Q : Exit → Act → World → Prop} (W0 Wc : World) (B base : Nat) (hgd : o.guard = none) (s x : Operand)
    (ho : o.op = .call { callee := .builtin .append, args := #[s, x], argTypes := #[35, 35] }) (v : Value) (k : Nat) (O : List Int) (hs : a.eval s = v) (g : Nat) (d : Int) (hx : a.eval x = .slice (some ⟨g, 0, none⟩) 1 1)
    (hown : Wc.ownsRow base 2 1 v k (cellsZ O)) (hcell : Wc.cell? ⟨g, 0, none⟩ = some (.int .i64 d)) (hbase : base ≤ Wc.heap.size) (hk : (k + 1) * 8 ≤ 140737488355328) (hbel : Below B W0 Wc) (hB : B ≤ base)
    (h : ∀ v' w', w'.ownsRow base 2 1 v' (k + 1) (cellsZ (O ++ [d])) → Below B W0 w' → wpList Try.prog ops Q rest (a.put o.dst v') w') : wpList Try.prog ops Q (o :: rest) a Wc := by
  obtain ⟨i0, hi, hz0, hz1, hz2⟩ := info_parts Try.infoI64
  refine wpList_append_own _ hgd s x 35 ho base 2 i0 (.int .i64 0) 1 8 Try.underlying35 hi hz0 hz1 hz2 rfl (by decide) _ k _ hs hown ⟨g, 0, none⟩ 1 1 [.int .i64 d] hx rfl ?_ ?_ (by unfold maxLen; omega) (by omega) hbase ?_
  · intro j u hj
    match j, hj with
    | 0, hj => simp at hj; subst hj; simpa [Addr.add] using hcell
  · intro u hu; simp at hu; subst hu; rfl
  · intro v' w' h1 h2 _
    refine h v' w' (by simpa [cellsZ] using h1) (hbel.grown h2 (by omega) ?_)
    intro q hq
    have := hown.lt q hq
    omega
/-- 'append([]int{}, x...)': a new slice of the same numbers; nothing old has turned. -/
theorem wp_copyQ {ops : Array Oper} {rest : List Oper} {o : Oper} {a : Act} {Q : Exit → Act → World → Prop} (w0 W : World) (hgd : o.guard = none) (s x : Operand)
    (ho : o.op = .call { callee := .builtin .append, args := #[s, x], argTypes := #[35, 35] }) (hbel : Below w0.heap.size w0 W)
    (hs : a.eval s = .slice (some ⟨W.heap.size, 0, none⟩) 0 0) (ao : Option Addr) (m c : Nat) (zs : List Int) (hx : a.eval x = .slice ao m c) (hR : RdZ W ao m c zs) (hm : m * 8 ≤ 140737488351232)
    (h : ∀ a' c' w', RdZ w' a' m c' zs → Below W.heap.size W w' → w'.ownsRow W.heap.size 2 1 (.slice a' m c') m (cellsZ zs) → wpList Try.prog ops Q rest (a.put o.dst (.slice a' m c')) w') : wpList Try.prog ops Q (o :: rest) a (W.alloc (.cells #[] 2)) := by
  obtain ⟨i0, hi, hz0, hz1, hz2⟩ := info_parts Try.infoI64
  have hown := World.ownsRow_made (base := W.heap.size) (e := 2) (size := 1) W #[] 0 (Nat.le_refl _) (Nat.zero_le _) (by simp)
  cases ao with
  | none =>
    have hc0 := hR.isnil rfl
    have hl := hR.lecap
    obtain rfl : c = 0 := hc0
    obtain rfl : m = 0 := by omega
    have hz : zs = [] := List.length_eq_zero_iff.1 hR.eqlen
    subst hz
    refine wpList_append_own_none hgd s x 35 ho W.heap.size 2 i0 1 Try.underlying35 hi _ 0 [] hs hown hx ?_
    obtain ⟨ro, cr, hv, hR'⟩ := rdz_of_owns (zs := []) (by simpa using hown)
    rw [hv]
    exact h _ _ _ hR' ((Below.refl _ _).alloc (Nat.le_refl _) _) (by rw [← hv]; exact hown)
  | some ad =>
    refine wpList_append_own _ hgd s x 35 ho W.heap.size 2 i0 (.int .i64 0) 1 8 Try.underlying35 hi hz0 hz1 hz2 rfl (by decide) _ 0 [] hs hown ad m c (cellsZ zs) hx (by simp [hR.eqlen]) ?_ (ints_oneCell _ _) (by unfold maxLen; omega) (by omega) ?_ ?_
    · intro j u hj
      rw [List.getElem?_map] at hj
      by_cases hjl : j < zs.length
      · rw [List.getElem?_eq_getElem hjl] at hj
        simp only [Option.map_some, Option.some.injEq] at hj
        subst hj
        obtain ⟨b, off, e, h1⟩ := hR.cell j (by rw [← hR.eqlen]; exact hjl)
        simp only [Option.some.injEq] at e
        subst e
        rw [List.getD_eq_getElem?_getD, List.getElem?_eq_getElem hjl] at h1
        rw [Go.WideShapes.add_plain, World.cell?_of_block (Below.heap_alloc _ _ _ (World.block_lt_of_cell? _ _ h1))]
        exact h1
      · rw [List.getElem?_eq_none (by omega)] at hj
        simp at hj
    · rw [World.size_alloc]; omega
    · intro v' w' h2 h3 h4
      rw [List.nil_append, Nat.zero_add] at h2
      obtain ⟨ro, cr, rfl, hR'⟩ := rdz_of_owns h2
      refine h _ _ w' hR' ?_ h2
      refine ((Below.refl _ _).alloc (Nat.le_refl _) _).grown h3 (by rw [World.size_alloc]; omega) ?_
      intro k hk
      simp only [Value.ownBlock, Option.some.injEq] at hk
      omega
set_option maxHeartbeats 2000000 in
theorem tuples_at (ao ao' : Option Addr) (n c m c' : Nat) (T U : List Int) (r : Bool) (w : World) (h : RdZ w ao n c T) (k : RdZ w ao' m c' U) (hr : r = true ↔ T = U) :
    Calls Try.prog 22 #[.slice ao n c, .slice ao' m c'] w fun e w' => e = .returned (.bool r) ∧ Below w.heap.size w w' := by
  have hcn := h.lecap
  have hcx := h.lemax
  have hcm := k.lecap
  have hmx := k.lemax
  have HT : Hid (T.length = n) := h.eqlen
  have HU : Hid (U.length = m) := k.eqlen
  have HR : Hid (r = true ↔ T = U) := hr
  clear hr
  by_cases hnm : n = m
  · subst hnm
    go_enter Try.func22, Try.ntmps22
    go_wp2
    go_loopw [13] (fun i wr => ∃ j : Nat, j ≤ n ∧ i = .int .i64 j ∧ Hid (∀ a, a < j → T.getD a 0 = U.getD a 0) ∧ Below w.heap.size w wr) (fun i _ => n - (intOf i).toNat)
    case atStart => exact ⟨0, Nat.zero_le _, rfl, fun a ha => absurd ha (by omega), Below.refl _ _⟩
    case round =>
      obtain ⟨j, hj, rfl, hall, hnx⟩ := hrel
      by_cases hlt : j < n
      · obtain ⟨g, o, rfl, hb⟩ := h.cell j hlt
        obtain ⟨g', o', rfl, hc⟩ := k.cell j hlt
        have hb' := (hnx.cell (World.block_lt_of_cell? _ _ hb)).trans hb
        have hc' := (hnx.cell (World.block_lt_of_cell? _ _ hc)).trans hc
        have hnd := hnx.drew
        clear hb hc
        by_cases he : T.getD j 0 = U.getD j 0
        · have HE : Hid (T.getD j 0 = U.getD j 0) := he
          rw [he] at hb'
          clear he
          obtain ⟨y, hy⟩ : ∃ y, U.getD j 0 = y := ⟨_, rfl⟩
          rw [hy] at hb' hc'
          clear hy
          go_wp2
          go_region
          go_wp2
          go_roundw
          case rel =>
            refine ⟨j + 1, by omega, by go_num, fun a ha => ?_, hnd⟩
            rcases Nat.lt_succ_iff_lt_or_eq.1 ha with ha | rfl
            · exact hall.out a ha
            · exact HE.out
          case measure => simp [intOf]; omega
        · have HE : Hid (r = false) := by
            cases r with
            | false => rfl
            | true => exact absurd (by rw [HR.out.1 rfl]) he
          obtain ⟨x, hx⟩ : ∃ x, T.getD j 0 = x := ⟨_, rfl⟩
          obtain ⟨y, hy⟩ : ∃ y, U.getD j 0 = y := ⟨_, rfl⟩
          rw [hx] at hb' he
          rw [hy] at hc' he
          clear hx hy
          go_wp2
          go_region
          go_wp2
          go_ret
          exact ⟨retb HE.out.symm, hnd⟩
      · obtain rfl : j = n := by omega
        have HE : Hid (r = true) := HR.out.2 (list_eq j HT.out HU.out hall.out)
        go_wp2
        go_ret
        exact ⟨retb HE.out.symm, hnx⟩
  · have HE : Hid (r = false) := by
      cases r with
      | false => rfl
      | true => exact absurd (by rw [← HT.out, HR.out.1 rfl, HU.out]) hnm
    have hnm' : ¬ (n : Int) = (m : Int) := by omega
    have hB0 := Below.refl w.heap.size w
    go_enter Try.func22, Try.ntmps22
    go_wp2
    go_ret
    exact ⟨retb HE.out.symm, hB0⟩
end Go.Proofs.Ytkanjgphmafjbaa.Wo
