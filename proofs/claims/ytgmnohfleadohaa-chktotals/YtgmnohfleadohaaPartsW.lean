/- ChkParts: the walks. -/
import Derived.Test.YtgmnohfleadohaaRowRead
namespace Go.Proofs.Ytgmnohfleadohaa.Chk
open Go.RowKit
set_option linter.unusedVariables false

/-- the first k numbers from the end, each with the other sign -/
def turn (zs : List Int) (k : Nat) : List Int := (zs.reverse.take k).map (fun z => -z)
theorem tot_map_neg (zs : List Int) : tot (zs.map (fun z => -z)) = tot zs := by
  induction zs with
  | nil => rfl
  | cons z r ih => simp only [List.map_cons, tot, ih]; omega
theorem tot_reverse (zs : List Int) : tot zs.reverse = tot zs := by
  induction zs with
  | nil => rfl
  | cons z r ih => rw [List.reverse_cons, tot_append, ih]; simp only [tot]; omega
theorem turn_all (zs : List Int) : tot (turn zs zs.length) = tot zs := by
  unfold turn
  rw [tot_map_neg, List.take_of_length_le (by simp), tot_reverse]
theorem turn_succ (zs : List Int) (k : Nat) (h : k < zs.length) : turn zs (k + 1) = turn zs k ++ [-(zs.getD (zs.length - 1 - k) 0)] := by
  unfold turn
  rw [List.take_succ_eq_append_getElem (by simpa using h), List.map_append]
  simp [List.getD_eq_getElem?_getD, List.getElem?_eq_getElem (show zs.length - 1 - k < zs.length by omega)]
theorem turn_length (zs : List Int) (k : Nat) (h : k ≤ zs.length) : (turn zs k).length = k := by
  unfold turn; simp; omega
theorem tot_mem (zs : List Int) (z : Int) (h : z ∈ zs) : z.natAbs ≤ tot zs := by
  induction zs with
  | nil => simp at h
  | cons y r ih =>
    simp only [tot]
    rcases List.mem_cons.1 h with rfl | h
    · omega
    · have := ih h; omega

/-- what the four sums come to: of the parts, and of the whole -/
def Sums (tA tB : Nat) (a e b f s g : Int) : Prop :=
  a = outT tA ∧ e = errT tA ∧ b = outT tB ∧ f = errT tB ∧ s = outT (tA + tB) ∧ g = errT (tA + tB)

theorem take_cells {w W : World} {b off len c : Nat} {zs : List Int} (hz : zs.length = len) (hbel : Below w.heap.size w W) (hc1 : c ≤ len)
    (hc : ∀ i, i < len → w.cell? ⟨b, off + i, none⟩ = some (.int .i64 (zs.getD i 0))) :
    ∀ j, j < c → W.cell? ((⟨b, off, none⟩ : Addr).add j) = some (.int .i64 ((zs.take c).getD j 0)) := by
  intro j hj
  have h := hc j (by omega)
  rw [Go.WideShapes.add_plain, hbel.cell (World.block_lt_of_cell? _ _ h), h]
  simp [List.getD_eq_getElem?_getD, hj]
theorem drop_cells {w W : World} {b off len c : Nat} {zs : List Int} (hz : zs.length = len) (hbel : Below w.heap.size w W) (hc1 : c ≤ len)
    (hc : ∀ i, i < len → w.cell? ⟨b, off + i, none⟩ = some (.int .i64 (zs.getD i 0))) :
    ∀ j, j < len - c → W.cell? ((⟨b, off + c, none⟩ : Addr).add j) = some (.int .i64 ((zs.drop c).getD j 0)) := by
  intro j hj
  have h := hc (c + j) (by omega)
  rw [Go.WideShapes.add_plain, Nat.add_assoc, hbel.cell (World.block_lt_of_cell? _ _ h), h]
  simp [List.getD_eq_getElem?_getD, List.getElem?_drop]
theorem fixed_at (w : World) : Calls Try.prog 13 #[] w fun e w' => e = .returned (.bool true) ∧ w = w' :=
  (fixed_any w).mono fun e w' ⟨h1, h2⟩ => ⟨h1, h2.symm⟩
theorem wf_take {zs : List Int} (h : ∀ z ∈ zs, (Lit.int .i64 z).wf = true) (c : Nat) : ∀ z ∈ zs.take c, (Lit.int .i64 z).wf = true := fun z hz => h z (List.mem_of_mem_take hz)
theorem wf_drop {zs : List Int} (h : ∀ z ∈ zs, (Lit.int .i64 z).wf = true) (c : Nat) : ∀ z ∈ zs.drop c, (Lit.int .i64 z).wf = true := fun z hz => h z (List.mem_of_mem_drop hz)

theorem all_cells {w W : World} {b off len : Nat} {zs : List Int} (hbel : Below w.heap.size w W)
    (hc : ∀ i, i < len → w.cell? ⟨b, off + i, none⟩ = some (.int .i64 (zs.getD i 0))) :
    ∀ j, j < len → W.cell? ((⟨b, off, none⟩ : Addr).add j) = some (.int .i64 (zs.getD j 0)) := by
  intro j hj
  have h := hc j (by omega)
  rw [Go.WideShapes.add_plain, hbel.cell (World.block_lt_of_cell? _ _ h), h]
theorem no_cells {W : World} {ad : Addr} {f : Nat → Value} (m : Nat) (hm : m = 0) : ∀ j, j < m → W.cell? (ad.add j) = some (f j) := fun j hj => by omega

theorem four (tA tB T : Nat) (h : tA + tB = T) :
    (outT tA = (tA : Int) ∧ errT tA = 0 ∧ outT tB = (tB : Int) ∧ errT tB = 0 ∧ outT T = (T : Int) ∧ errT T = 0 ∧ T ≤ 9223372036854775807) ∨
    (outT T = 0 ∧ errT T = 10 ∧ errT tA = 10) ∨ (outT T = 0 ∧ errT T = 10 ∧ errT tA = 0 ∧ errT tB = 10) ∨
    (outT tA = (tA : Int) ∧ errT tA = 0 ∧ outT tB = (tB : Int) ∧ errT tB = 0 ∧ outT T = 0 ∧ errT T = 10 ∧ tA ≤ 9223372036854775807 ∧ tB ≤ 9223372036854775807 ∧ 9223372036854775807 < T) := by
  unfold outT errT
  by_cases h1 : T ≤ 9223372036854775807
  · left; rw [if_pos h1, if_pos h1]; rw [if_pos (by omega), if_pos (by omega), if_pos (by omega), if_pos (by omega)]; exact ⟨rfl, rfl, rfl, rfl, rfl, rfl, h1⟩
  · right
    rw [if_neg h1, if_neg h1]
    by_cases h2 : tA ≤ 9223372036854775807
    · right
      by_cases h3 : tB ≤ 9223372036854775807
      · right; rw [if_pos h2, if_pos h2, if_pos h3, if_pos h3]; exact ⟨rfl, rfl, rfl, rfl, rfl, rfl, h2, h3, by omega⟩
      · left; rw [if_pos h2, if_neg h3]; exact ⟨rfl, rfl, rfl, rfl⟩
    · left; rw [if_neg h2]; exact ⟨rfl, rfl, rfl⟩
theorem too_much (zs : List Int) (h : (-9223372036854775808 : Int) ∈ zs) : outT (tot zs) = 0 ∧ errT (tot zs) = 10 := by
  have := tot_mem zs _ h
  unfold outT errT
  rw [if_neg (by omega), if_neg (by omega)]; exact ⟨rfl, rfl⟩

theorem turned_step {w wr w1 : World} {v v' : Value} {zs : List Int} {k : Nat} {z : Int} (hk : k < zs.length) (hze : zs.getD (zs.length - 1 - k) 0 = z) (hz1 : -9223372036854775808 < z) (hz2 : z ≤ 9223372036854775807)
    (hwk : ∀ x ∈ turn zs k, (Lit.int .i64 x).wf = true) (hnx : Below w.heap.size w wr) (hown : wr.ownsRow w.heap.size 2 1 v k ((turn zs k).map (Value.int .i64)))
    (hown' : w1.ownsRow w.heap.size 2 1 v' (k + 1) ((turn zs k).map (Value.int .i64) ++ [Value.int .i64 (-z)])) (o : Obj) (hgrow : (wr.alloc o).grownBy w1 v.ownBlock) :
    w1.ownsRow w.heap.size 2 1 v' (k + 1) ((turn zs (k + 1)).map (Value.int .i64)) ∧ (∀ x ∈ turn zs (k + 1), (Lit.int .i64 x).wf = true) ∧ Below w.heap.size w w1 := by
  rw [turn_succ zs k hk, hze, List.map_append]
  refine ⟨hown', ?_, (hnx.alloc hnx.size _).grown hgrow (by rw [World.size_alloc]; have := hnx.size; omega) fun g hg => (hown.lt g hg).1⟩
  intro x hx
  rcases List.mem_append.1 hx with hx | hx
  · exact hwk x hx
  · simp only [List.mem_singleton] at hx; subst hx
    exact WalkArith.wf_i64 (by omega)

set_option maxHeartbeats 4000000 in
theorem parts_walk (b off len cap c : Nat) (zs : List Int) (a1 : Int) (w : World) (hz : Hid (zs.length = len)) (hlen : len * 8 ≤ 140737488351232) (hlc : len ≤ cap) (hcap : cap ≤ 9223372036854775807)
   (hcut : wrap64 ((IntKind.u64.wrap a1).tmod (↑len + 1)) = (c : Int)) (hc1 : c ≤ len) (hcc : ¬ cap = c)
   (hc : Hid (∀ i, i < len → w.cell? ⟨b, off + i, none⟩ = some (.int .i64 (zs.getD i 0)))) (hw : Hid (∀ z ∈ zs, (Lit.int .i64 z).wf = true)) :
    Calls Try.prog 8 #[.slice (some ⟨b, off, none⟩) len cap, .int .i64 a1] w fun e w' => e = .returned (.bool true) ∧ Below w.heap.size w w' := by
  have hbel0 := Below.refl w.heap.size w
  obtain ⟨i0, hi, hz0, hz1, hz2⟩ := info_parts Try.info2
  go_enter Try.func8, Try.ntmps8
  go_wp2_with (first
    | (go_at_call 13; refine (fixed_at _).mono ?_; rintro e w' ⟨rfl, rfl⟩)
    | (at_builtin; refine wp_copy w _ rfl (.tmp 30) (.tmp 33) rfl hbel0 rfl ⟨b, off, none⟩ c _ (zs.take c) rfl (by rw [List.length_take, hz.out]; omega) (take_cells hz.out hbel0 hc1 hc.out) (wf_take hw.out c) (by omega) ?_; intro vA wA hA hbA)
    | (at_builtin; refine wp_copy w _ rfl (.tmp 39) (.tmp 42) rfl hbA rfl ⟨b, off + c, none⟩ (len - c) _ (zs.drop c) rfl (by rw [List.length_drop, hz.out]) (drop_cells hz.out hbA hc1 hc.out) (wf_drop hw.out c) (by omega) ?_; intro vB wB hB hbB)
    | (at_builtin; refine wp_copy w _ rfl (.tmp 48) (.tmp 49) rfl hbB rfl ⟨b, off, none⟩ len _ zs rfl hz.out (all_cells hbB hc.out) hw.out (by omega) ?_; intro vS wS hS hbS)
    | (go_at_call 25; refine (total_at _ _ _ (by assumption)).mono ?_; rintro e w' ⟨rfl, rfl⟩))
  clear hA hB hS hbA hbB hbel0
  go_loopw [12, 56] (fun v i wr => ∃ k : Nat, k ≤ len ∧ i = .int .i64 k ∧ wr.ownsRow w.heap.size 2 1 v k ((turn zs k).map (Value.int .i64)) ∧ (∀ x ∈ turn zs k, (Lit.int .i64 x).wf = true) ∧ Below w.heap.size w wr) (fun _ i _ => len - (intOf i).toNat)
  case atStart => exact ⟨0, Nat.zero_le _, rfl, World.ownsRow_nil _ _ _ _, by simp [turn], hbS⟩
  case round =>
    obtain ⟨k, hk, rfl, hown, hwk, hnx⟩ := hrel
    by_cases hlt : k < len
    · have hcell : wr.cell? ⟨b, off + (len - 1 - k), none⟩ = some (.int .i64 (zs.getD (len - 1 - k) 0)) := by
        have h := hc.out (len - 1 - k) (by omega)
        rw [hnx.cell (World.block_lt_of_cell? _ _ h), h]
      obtain ⟨z, hze⟩ : ∃ z, zs.getD (len - 1 - k) 0 = z := ⟨_, rfl⟩
      have hmem : Hid (z ∈ zs) := by
        show z ∈ zs
        rw [← hze, List.getD_eq_getElem?_getD, List.getElem?_eq_getElem (by rw [hz.out]; omega)]; simp
      have hzb : -9223372036854775808 ≤ z ∧ z ≤ 9223372036854775807 := by
        simpa [Lit.wf, IntKind.min, IntKind.max, IntKind.signed, IntKind.bits] using hw.out z hmem.out
      rw [hze] at hcell
      have HZE : Hid (zs.getD (len - 1 - k) 0 = z) := hze
      clear hze
      by_cases h1 : z = -9223372036854775808
      · subst h1
        obtain ⟨g1, g2⟩ := too_much zs hmem.out
        go_wp2_with (go_at_call 15; refine (neg_no _).mono ?_; rintro e w' ⟨rfl, hw2⟩; obtain rfl := hw2.symm)
        go_ret
        exact ⟨rfl, hnx⟩
      · have hz3 : -9223372036854775808 < z := by omega
        have hz4 : z ≤ 9223372036854775807 := hzb.2
        clear h1 hzb
        have HW : Hid (∀ x ∈ turn zs k, (Lit.int .i64 x).wf = true) := hwk
        clear hwk
        go_wp2_with (first
          | (go_at_call 15; refine (neg_ok _ _ (by omega) (by omega)).mono ?_; rintro e w' ⟨rfl, hw2⟩; obtain rfl := hw2.symm)
          | (at_builtin; refine wpList_append_own _ rfl (.tmp 79) (.tmp 81) 33 rfl w.heap.size 2 i0 (.int .i64 0) 1 8 Try.underlying33 hi hz0 hz1 hz2 rfl (by decide) _ _ _ rfl (hown.alloc _) ⟨wr.heap.size, 0, none⟩ 1 1 [.int .i64 (-z)] rfl rfl ?c1 ?c2 ?c3 ?c4 ?c5 ?_))
        case c1 =>
          intro j u hj
          match j, hj with
          | 0, hj => simp at hj; subst hj; simp [Addr.add]
        case c2 => intro u hu; simp at hu; subst hu; rfl
        case c3 => unfold maxLen; omega
        case c4 => omega
        case c5 => have := hnx.size; simp; omega
        intro v' w1 hown' hgrow _
        have R := turned_step (by rw [hz.out]; exact hlt) (by rw [hz.out]; exact HZE.out) hz3 hz4 HW.out hnx hown hown' _ hgrow
        clear hown' hgrow hown hcell HW
        go_wp2
        go_roundw
        case rel => exact ⟨k + 1, by omega, by go_num, R.1, R.2.1, R.2.2⟩
        case measure => simp [intOf]; omega
    · have hkl : k = len := by omega
      subst hkl
      have hrow := row_of_owns hown hwk
      have htt : tot (turn zs k) = tot zs := by rw [← hz.out]; exact turn_all zs
      have hsum : tot (zs.take c) + tot (zs.drop c) = tot zs := by rw [← tot_append, List.take_append_drop]
      have h4 := four _ _ _ hsum
      have hs1 : tot (zs.take c) + tot (zs.drop c) ≤ tot zs := by omega
      have hs2 : tot zs ≤ tot (zs.take c) + tot (zs.drop c) := by omega
      clear hown hwk hsum
      rcases h4 with ⟨h1, h2, h3, h4, h5, h6, h7⟩ | ⟨h1, h2, h3⟩ | ⟨h1, h2, h3, h4⟩ | ⟨h1, h2, h3, h4, h5, h6, h7, h8, h9⟩
      · go_wp2_with (first
          | (go_at_call 25; refine (total_at _ _ _ hrow).mono ?_; rintro e w' ⟨rfl, rfl⟩)
          | (go_at_call 9; refine (add_ok _ _ _ (by omega) (by omega) (by omega) (by omega) (by omega) (by omega)).mono ?_; rintro e w' ⟨rfl, hw2⟩; obtain rfl := hw2.symm))
        go_ret
        exact ⟨rfl, hnx⟩
      · go_wp2_with (first
          | (go_at_call 25; refine (total_at _ _ _ hrow).mono ?_; rintro e w' ⟨rfl, rfl⟩))
        go_ret
        exact ⟨rfl, hnx⟩
      · go_wp2_with (first
          | (go_at_call 25; refine (total_at _ _ _ hrow).mono ?_; rintro e w' ⟨rfl, rfl⟩))
        go_ret
        exact ⟨rfl, hnx⟩
      · go_wp2_with (first
          | (go_at_call 25; refine (total_at _ _ _ hrow).mono ?_; rintro e w' ⟨rfl, rfl⟩)
          | (go_at_call 9; refine (add_no _ _ _ (by omega) (by omega) (by omega) (by omega) (by omega)).mono ?_; rintro e w' ⟨rfl, hw2⟩; obtain rfl := hw2.symm))
        go_ret
        exact ⟨rfl, hnx⟩
set_option maxHeartbeats 4000000 in
theorem parts_full (b off len : Nat) (zs : List Int) (a1 : Int) (w : World) (hz : Hid (zs.length = len)) (hlen : len * 8 ≤ 140737488351232)
   (hcut : wrap64 ((IntKind.u64.wrap a1).tmod (↑len + 1)) = (len : Int))
   (hc : Hid (∀ i, i < len → w.cell? ⟨b, off + i, none⟩ = some (.int .i64 (zs.getD i 0)))) (hw : Hid (∀ z ∈ zs, (Lit.int .i64 z).wf = true)) :
    Calls Try.prog 8 #[.slice (some ⟨b, off, none⟩) len len, .int .i64 a1] w fun e w' => e = .returned (.bool true) ∧ Below w.heap.size w w' := by
  have hbel0 := Below.refl w.heap.size w
  obtain ⟨i0, hi, hz0, hz1, hz2⟩ := info_parts Try.info2
  go_enter Try.func8, Try.ntmps8
  go_wp2_with (first
    | (go_at_call 13; refine (fixed_at _).mono ?_; rintro e w' ⟨rfl, rfl⟩)
    | (at_builtin; refine wp_copy w _ rfl (.tmp 30) (.tmp 33) rfl hbel0 rfl ⟨b, off, none⟩ len _ (zs.take len) rfl (by rw [List.length_take, hz.out]; omega) (take_cells hz.out hbel0 (Nat.le_refl _) hc.out) (wf_take hw.out len) (by omega) ?_; intro vA wA hA hbA)
    | (at_builtin; refine wp_copy w _ rfl (.tmp 39) (.tmp 42) rfl hbA rfl ⟨b, off, none⟩ 0 _ (zs.drop len) rfl (by rw [List.length_drop, hz.out]; omega) (no_cells 0 rfl) (wf_drop hw.out len) (by omega) ?_; intro vB wB hB hbB)
    | (at_builtin; refine wp_copy w _ rfl (.tmp 48) (.tmp 49) rfl hbB rfl ⟨b, off, none⟩ len _ zs rfl hz.out (all_cells hbB hc.out) hw.out (by omega) ?_; intro vS wS hS hbS)
    | (go_at_call 25; refine (total_at _ _ _ (by assumption)).mono ?_; rintro e w' ⟨rfl, rfl⟩))
  clear hA hB hS hbA hbB hbel0
  go_loopw [12, 56] (fun v i wr => ∃ k : Nat, k ≤ len ∧ i = .int .i64 k ∧ wr.ownsRow w.heap.size 2 1 v k ((turn zs k).map (Value.int .i64)) ∧ (∀ x ∈ turn zs k, (Lit.int .i64 x).wf = true) ∧ Below w.heap.size w wr) (fun _ i _ => len - (intOf i).toNat)
  case atStart => exact ⟨0, Nat.zero_le _, rfl, World.ownsRow_nil _ _ _ _, by simp [turn], hbS⟩
  case round =>
    obtain ⟨k, hk, rfl, hown, hwk, hnx⟩ := hrel
    by_cases hlt : k < len
    · have hcell : wr.cell? ⟨b, off + (len - 1 - k), none⟩ = some (.int .i64 (zs.getD (len - 1 - k) 0)) := by
        have h := hc.out (len - 1 - k) (by omega)
        rw [hnx.cell (World.block_lt_of_cell? _ _ h), h]
      obtain ⟨z, hze⟩ : ∃ z, zs.getD (len - 1 - k) 0 = z := ⟨_, rfl⟩
      have hmem : Hid (z ∈ zs) := by
        show z ∈ zs
        rw [← hze, List.getD_eq_getElem?_getD, List.getElem?_eq_getElem (by rw [hz.out]; omega)]; simp
      have hzb : -9223372036854775808 ≤ z ∧ z ≤ 9223372036854775807 := by
        simpa [Lit.wf, IntKind.min, IntKind.max, IntKind.signed, IntKind.bits] using hw.out z hmem.out
      rw [hze] at hcell
      have HZE : Hid (zs.getD (len - 1 - k) 0 = z) := hze
      clear hze
      by_cases h1 : z = -9223372036854775808
      · subst h1
        obtain ⟨g1, g2⟩ := too_much zs hmem.out
        go_wp2_with (go_at_call 15; refine (neg_no _).mono ?_; rintro e w' ⟨rfl, hw2⟩; obtain rfl := hw2.symm)
        go_ret
        exact ⟨rfl, hnx⟩
      · have hz3 : -9223372036854775808 < z := by omega
        have hz4 : z ≤ 9223372036854775807 := hzb.2
        clear h1 hzb
        have HW : Hid (∀ x ∈ turn zs k, (Lit.int .i64 x).wf = true) := hwk
        clear hwk
        go_wp2_with (first
          | (go_at_call 15; refine (neg_ok _ _ (by omega) (by omega)).mono ?_; rintro e w' ⟨rfl, hw2⟩; obtain rfl := hw2.symm)
          | (at_builtin; refine wpList_append_own _ rfl (.tmp 79) (.tmp 81) 33 rfl w.heap.size 2 i0 (.int .i64 0) 1 8 Try.underlying33 hi hz0 hz1 hz2 rfl (by decide) _ _ _ rfl (hown.alloc _) ⟨wr.heap.size, 0, none⟩ 1 1 [.int .i64 (-z)] rfl rfl ?c1 ?c2 ?c3 ?c4 ?c5 ?_))
        case c1 =>
          intro j u hj
          match j, hj with
          | 0, hj => simp at hj; subst hj; simp [Addr.add]
        case c2 => intro u hu; simp at hu; subst hu; rfl
        case c3 => unfold maxLen; omega
        case c4 => omega
        case c5 => have := hnx.size; simp; omega
        intro v' w1 hown' hgrow _
        have R := turned_step (by rw [hz.out]; exact hlt) (by rw [hz.out]; exact HZE.out) hz3 hz4 HW.out hnx hown hown' _ hgrow
        clear hown' hgrow hown hcell HW
        go_wp2
        go_roundw
        case rel => exact ⟨k + 1, by omega, by go_num, R.1, R.2.1, R.2.2⟩
        case measure => simp [intOf]; omega
    · have hkl : k = len := by omega
      subst hkl
      have hrow := row_of_owns hown hwk
      have htt : tot (turn zs k) = tot zs := by rw [← hz.out]; exact turn_all zs
      have hsum : tot (zs.take k) + tot (zs.drop k) = tot zs := by rw [← tot_append, List.take_append_drop]
      have h4 := four _ _ _ hsum
      have hs1 : tot (zs.take k) + tot (zs.drop k) ≤ tot zs := by omega
      have hs2 : tot zs ≤ tot (zs.take k) + tot (zs.drop k) := by omega
      clear hown hwk hsum
      rcases h4 with ⟨h1, h2, h3, h4, h5, h6, h7⟩ | ⟨h1, h2, h3⟩ | ⟨h1, h2, h3, h4⟩ | ⟨h1, h2, h3, h4, h5, h6, h7, h8, h9⟩
      · go_wp2_with (first
          | (go_at_call 25; refine (total_at _ _ _ hrow).mono ?_; rintro e w' ⟨rfl, rfl⟩)
          | (go_at_call 9; refine (add_ok _ _ _ (by omega) (by omega) (by omega) (by omega) (by omega) (by omega)).mono ?_; rintro e w' ⟨rfl, hw2⟩; obtain rfl := hw2.symm))
        go_ret
        exact ⟨rfl, hnx⟩
      · go_wp2_with (first
          | (go_at_call 25; refine (total_at _ _ _ hrow).mono ?_; rintro e w' ⟨rfl, rfl⟩))
        go_ret
        exact ⟨rfl, hnx⟩
      · go_wp2_with (first
          | (go_at_call 25; refine (total_at _ _ _ hrow).mono ?_; rintro e w' ⟨rfl, rfl⟩))
        go_ret
        exact ⟨rfl, hnx⟩
      · go_wp2_with (first
          | (go_at_call 25; refine (total_at _ _ _ hrow).mono ?_; rintro e w' ⟨rfl, rfl⟩)
          | (go_at_call 9; refine (add_no _ _ _ (by omega) (by omega) (by omega) (by omega) (by omega)).mono ?_; rintro e w' ⟨rfl, hw2⟩; obtain rfl := hw2.symm))
        go_ret
        exact ⟨rfl, hnx⟩

set_option maxHeartbeats 1000000 in
theorem parts_empty (x : Addr) (a1 : Int) (w : World) (hcut : wrap64 ((IntKind.u64.wrap a1).tmod 1) = 0) :
    Calls Try.prog 8 #[.slice (some x) 0 0, .int .i64 a1] w fun e w' => e = .returned (.bool true) ∧ Below w.heap.size w w' := by
  have hbel0 := Below.refl w.heap.size w
  have t1 : outT (tot []) = 0 := rfl
  have t2 : errT (tot []) = 0 := rfl
  go_enter Try.func8, Try.ntmps8
  go_wp2_with (first
    | (go_at_call 13; refine (fixed_at _).mono ?_; rintro e w' ⟨rfl, rfl⟩)
    | (at_builtin; refine wp_copy w _ rfl (.tmp 30) (.tmp 33) rfl hbel0 rfl x 0 _ [] rfl rfl (no_cells 0 rfl) (by simp) (by omega) ?_; intro vA wA hA hbA)
    | (at_builtin; refine wp_copy w _ rfl (.tmp 39) (.tmp 42) rfl hbA rfl x 0 _ [] rfl rfl (no_cells 0 rfl) (by simp) (by omega) ?_; intro vB wB hB hbB)
    | (at_builtin; refine wp_copy w _ rfl (.tmp 48) (.tmp 49) rfl hbB rfl x 0 _ [] rfl rfl (no_cells 0 rfl) (by simp) (by omega) ?_; intro vS wS hS hbS)
    | (go_at_call 25; refine (total_at _ _ _ (by assumption)).mono ?_; rintro e w' ⟨rfl, rfl⟩))
  have hrow : Row wS (.slice none 0 0) [] := ⟨none, 0, rfl, Nat.zero_le _, fun h => absurd h (by simp), by simp⟩
  refine wp_loop_rounds 1 ?_
  rw [rounds_succ]
  go_wp2_with (first
    | (go_at_call 25; refine (total_at _ _ _ hrow).mono ?_; rintro e w' ⟨rfl, rfl⟩)
    | (go_at_call 9; refine (add_ok _ _ _ (by omega) (by omega) (by omega) (by omega) (by omega) (by omega)).mono ?_; rintro e w' ⟨rfl, hw2⟩; obtain rfl := hw2.symm))
  go_ret
  exact ⟨rfl, hbS⟩

set_option maxHeartbeats 1000000 in
theorem parts_nil (a1 : Int) (w : World) (hcut : wrap64 ((IntKind.u64.wrap a1).tmod 1) = 0) :
    Calls Try.prog 8 #[.slice none 0 0, .int .i64 a1] w fun e w' => e = .returned (.bool true) ∧ Below w.heap.size w w' := by
  have hbel0 := Below.refl w.heap.size w
  have t1 : outT (tot []) = 0 := rfl
  have t2 : errT (tot []) = 0 := rfl
  go_enter Try.func8, Try.ntmps8
  go_wp2_with (first
    | (go_at_call 13; refine (fixed_at _).mono ?_; rintro e w' ⟨rfl, rfl⟩)
    | (at_builtin; refine wp_copy_nil w _ rfl (.tmp 30) (.tmp 33) rfl hbel0 rfl rfl ?_; intro vA wA hA hbA)
    | (at_builtin; refine wp_copy_nil w _ rfl (.tmp 39) (.tmp 42) rfl hbA rfl rfl ?_; intro vB wB hB hbB)
    | (at_builtin; refine wp_copy_nil w _ rfl (.tmp 48) (.tmp 49) rfl hbB rfl rfl ?_; intro vS wS hS hbS)
    | (go_at_call 25; refine (total_at _ _ _ (by assumption)).mono ?_; rintro e w' ⟨rfl, rfl⟩))
  have hrow : Row wS (.slice none 0 0) [] := ⟨none, 0, rfl, Nat.zero_le _, fun h => absurd h (by simp), by simp⟩
  refine wp_loop_rounds 1 ?_
  rw [rounds_succ]
  go_wp2_with (first
    | (go_at_call 25; refine (total_at _ _ _ hrow).mono ?_; rintro e w' ⟨rfl, rfl⟩)
    | (go_at_call 9; refine (add_ok _ _ _ (by omega) (by omega) (by omega) (by omega) (by omega) (by omega)).mono ?_; rintro e w' ⟨rfl, hw2⟩; obtain rfl := hw2.symm))
  go_ret
  exact ⟨rfl, hbS⟩

end Go.Proofs.Ytgmnohfleadohaa.Chk
