/- The walks of GlyphPlaces, GlyphClasses. -/
import Derived.Test.YtdfdbhjgighkpaaGlM
import Derived.Test.YtdfdbhjgighkpaaGlF
namespace Go.Proofs.Ytdfdbhjgighkpaa.Gl
open Go.RowKit
set_option linter.unusedVariables false

theorem below_drewn {B : Nat} {w w1 : World} (h : Below B w w1) (n : Nat) : Below B w (w1.drewN n) := h.trans ⟨rfl, rfl, rfl, Nat.le_refl _, fun _ _ => rfl⟩
theorem cell_keep {W w1 : World} {x y : Value} {t : TypeId} (hb : Below (W.alloc (.cells #[x, y] t)).heap.size (W.alloc (.cells #[x, y] t)) w1) : w1.cell? ⟨W.heap.size, 0, none⟩ = some x ∧ w1.cell? ⟨W.heap.size, 1, none⟩ = some y := by
  obtain ⟨hc, _⟩ := bcell hb
  constructor
  · rw [hc _ _ (by simp)]; simp
  · rw [hc _ _ (by simp)]; simp
set_option maxHeartbeats 1000000 in
theorem places_in (s : ByteArray) (k : Nat) (w : World) (hs : s.size ≤ 9223372036854775807) (hk : k ≤ s.size) :
    Calls Try.prog 5 #[.string s, .int .i64 k] w fun e w' => e = .returned (.bool true) ∧ Below w.heap.size w w' := by
  obtain ⟨n, hn⟩ := cnt_is (s.extract 0 k)
  have AT : Hid (∀ w, Calls Try.prog 24 #[.string s, .int .i64 k] w fun e w' => e = .returned (.tuple #[.agg #[.int .i64 k, .int .i64 n], .int .i64 0]) ∧ Below w.heap.size w w') := fun w => at_in s k n w hs hk hn
  have CH : Hid (∀ w, Calls Try.prog 25 #[.string (s.extract 0 k)] w fun e w' => e = .returned (.int .i64 n) ∧ w = w') := fun w => rchars_at _ n w (by rw [ByteArray.size_extract]; omega) hn
  have d1 : decide ((k : Int) < 0) = false := decide_eq_false (by omega)
  have d2 : decide (s.size < k) = false := decide_eq_false (by omega)
  clear hn
  go_enter Try.func5, Try.ntmps5
  go_wp2_with (first
    | (go_at_call 24; refine (AT.out _).mono ?_; rintro e w1 ⟨rfl, hB1⟩)
    | (go_at_call 9; refine (fixed_at _).mono ?_; rintro e w2 ⟨rfl, hB2⟩; obtain ⟨c0, c1⟩ := cell_keep hB2))
  go_quiet ((go_at_call 25; exact Calls.quiet_of_same ((CH.out _).mono fun e w' h => ⟨h.1, h.2.symm⟩)))
  go_wp2
  go_ret
  exact ⟨rfl, below_drewn (bt2 (bta hB1 _) hB2) nq⟩
set_option maxHeartbeats 1000000 in
theorem places_out (s : ByteArray) (k : Int) (w : World) (hs : s.size ≤ 9223372036854775807) (hk : k < 0 ∨ (s.size : Int) < k) :
    Calls Try.prog 5 #[.string s, .int .i64 k] w fun e w' => e = .returned (.bool true) ∧ Below w.heap.size w w' := by
  have AT : Hid (∀ w, Calls Try.prog 24 #[.string s, .int .i64 k] w fun e w' => e = .returned (.tuple #[.agg #[.int .i64 0, .int .i64 0], .int .i64 2]) ∧ Below w.heap.size w w') := fun w => at_out s k w hs hk
  by_cases h0 : k < 0
  · clear hk
    go_enter Try.func5, Try.ntmps5
    go_wp2_with (first
      | (go_at_call 24; refine (AT.out _).mono ?_; rintro e w1 ⟨rfl, hB1⟩)
      | (go_at_call 9; refine (fixed_at _).mono ?_; rintro e w2 ⟨rfl, hB2⟩; obtain ⟨c0, c1⟩ := cell_keep hB2))
    go_ret
    exact ⟨rfl, bt2 (bta hB1 _) hB2⟩
  · have h1 : (s.size : Int) < k := by omega
    have h2 : decide (k < 0) = false := decide_eq_false h0
    clear hk
    go_enter Try.func5, Try.ntmps5
    go_wp2_with (first
      | (go_at_call 24; refine (AT.out _).mono ?_; rintro e w1 ⟨rfl, hB1⟩)
      | (go_at_call 9; refine (fixed_at _).mono ?_; rintro e w2 ⟨rfl, hB2⟩; obtain ⟨c0, c1⟩ := cell_keep hB2))
    go_ret
    exact ⟨rfl, bt2 (bta hB1 _) hB2⟩
theorem pl_of {r : Int} (h : plB r ≠ emp) : r ∈ marks := by
  by_cases hm : r ∈ marks
  · exact hm
  · exact absurd (pl_none r (fun m h' e => hm (e ▸ h'))) h
/-- what a sign stands for is made of plain characters -/
def plainB (x : ByteArray) : Bool := x.data.all (fun c => 33 ≤ c.toNat && c.toNat < 128)
theorem plain_get {x : ByteArray} (h : plainB x = true) (i : Nat) (hi : i < x.size) : 33 ≤ x[i].toNat ∧ x[i].toNat < 128 := by
  unfold plainB at h
  rw [Array.all_eq_true] at h
  have := h i hi
  simp only [Bool.and_eq_true, decide_eq_true_eq] at this
  exact this
theorem marks_all : ∀ r ∈ marks, stB r = false ∧ reB r = false ∧ blB r = false ∧ (plainB (plB r) = true ∧ (plB r).size ≤ 3) ∧ 0 ≤ r ∧ r ≤ 1114111 := by decide +kernel
theorem bl_re {r : Int} (h : blB r = true) : reB r = false ∧ r ∉ marks ∧ stB r = false := by
  have h' := of_decide_eq_true h
  rcases h' with rfl | rfl | rfl | rfl <;> decide +kernel
theorem re_bd {r : Int} (h : reB r = true) : 0 ≤ r ∧ r ≤ 1114111 := by
  rw [re_eq, st_eq] at h
  unfold laB grB at h
  simp only [Bool.or_eq_true, decide_eq_true_eq] at h
  omega
theorem bl_bd {r : Int} (h : blB r = true) : 0 ≤ r ∧ r ≤ 1114111 := by
  have h' := of_decide_eq_true h
  omega
set_option maxRecDepth 100000 in
set_option maxHeartbeats 4000000 in
theorem classes_sign (r : Int) (w : World) (h1 : -2147483648 ≤ r) (h2 : r ≤ 2147483647) (hm : r ∈ marks) (hp : plB r ≠ emp) :
    Calls Try.prog 8 #[.int .i32 r] w fun e w' => e = .returned (.bool true) ∧ Below w.heap.size w w' := by
  obtain ⟨a1, a2, a3, ⟨a4, a7⟩, a5, a6⟩ := marks_all r hm
  have S1 : Hid (∀ w, Calls Try.prog 10 #[.int .i32 r] w fun e w' => e = .returned (.bool false) ∧ w = w') := fun w => by rw [← a1]; exact start_at r w
  have S2 : Hid (∀ w, Calls Try.prog 12 #[.int .i32 r] w fun e w' => e = .returned (.bool false) ∧ w = w') := fun w => by rw [← a2]; exact rest_at r w
  have S3 : Hid (∀ w, Calls Try.prog 14 #[.int .i32 r] w fun e w' => e = .returned (.bool false) ∧ w = w') := fun w => by rw [← a3]; exact blank_at r w
  have S4 : Hid (∀ w, Calls Try.prog 16 #[.int .i32 r] w fun e w' => e = .returned (.string (plB r)) ∧ w = w') := fun w => plain_at r w
  generalize plB r = pl at *
  have HP : Hid (plainB pl = true) := a4
  clear a1 a2 a3 a4 hm
  have p1 : (pl.toList == []) = false := by
    cases hq : (pl.toList == []) with
    | false => rfl
    | true => exact absurd (toList_inj (by rw [beq_iff_eq] at hq; rw [hq]; decide +kernel)) hp
  have p2 : pl.toList.isEmpty = false := by
    cases hq : pl.toList with
    | nil => rw [hq] at p1; cases p1
    | cons _ _ => rfl
  clear hp
  go_enter Try.func8, Try.ntmps8
  go_wp2_with (first
    | (go_at_call 9; refine (fixed_at _).mono ?_; rintro e w2 ⟨rfl, hB2⟩)
    | (go_at_call 10; refine (S1.out _).mono ?_; rintro e w3 ⟨rfl, rfl⟩)
    | (go_at_call 12; refine (S2.out _).mono ?_; rintro e w3 ⟨rfl, rfl⟩)
    | (go_at_call 14; refine (S3.out _).mono ?_; rintro e w3 ⟨rfl, rfl⟩)
    | (go_at_call 16; refine (S4.out _).mono ?_; rintro e w3 ⟨rfl, rfl⟩))
  go_loop [4] (fun i => ∃ k : Nat, k ≤ pl.size ∧ i = .int .i64 k) (fun i => pl.size - (intOf i).toNat)
  case atStart => exact ⟨0, Nat.zero_le _, rfl⟩
  case round =>
    obtain ⟨k, hk, rfl⟩ := hrel
    by_cases hlt : k < pl.size
    · obtain ⟨g1, g2⟩ := plain_get HP.out k hlt
      have g3 : decide (128 ≤ pl[k].toNat) = false := decide_eq_false (by omega)
      have g4 : decide (pl[k].toNat ≤ 32) = false := decide_eq_false (by omega)
      go_wp2
      go_round
      case rel => exact ⟨k + 1, by omega, by go_num⟩
      case measure => simp [intOf]; omega
    · go_wp2
      go_ret
      exact ⟨rfl, hB2⟩
set_option maxHeartbeats 4000000 in
theorem classes_none (r : Int) (w : World) (h1 : -2147483648 ≤ r) (h2 : r ≤ 2147483647) (hp : plB r = emp) (st re bl inr : Bool) (e1 : stB r = st) (e2 : reB r = re) (e3 : blB r = bl) (e4 : decide (0 ≤ r ∧ r ≤ 1114111) = inr)
    (hc : (st = true ∧ re = true ∧ bl = false ∧ inr = true) ∨ (st = false ∧ re = true ∧ bl = false ∧ inr = true) ∨ (st = false ∧ re = false ∧ (inr = true ∨ bl = false))) :
    Calls Try.prog 8 #[.int .i32 r] w fun e w' => e = .returned (.bool true) ∧ Below w.heap.size w w' := by
  have S1 : Hid (∀ w, Calls Try.prog 10 #[.int .i32 r] w fun e w' => e = .returned (.bool st) ∧ w = w') := fun w => by rw [← e1]; exact start_at r w
  have S2 : Hid (∀ w, Calls Try.prog 12 #[.int .i32 r] w fun e w' => e = .returned (.bool re) ∧ w = w') := fun w => by rw [← e2]; exact rest_at r w
  have S3 : Hid (∀ w, Calls Try.prog 14 #[.int .i32 r] w fun e w' => e = .returned (.bool bl) ∧ w = w') := fun w => by rw [← e3]; exact blank_at r w
  have S4 : Hid (∀ w, Calls Try.prog 16 #[.int .i32 r] w fun e w' => e = .returned (.string emp) ∧ w = w') := fun w => by rw [← hp]; exact plain_at r w
  clear e1 e2 e3 hp
  cases inr with
  | true =>
    obtain ⟨g1, g2⟩ := of_decide_eq_true e4
    clear e4
    rcases hc with ⟨rfl, rfl, rfl, _⟩ | ⟨rfl, rfl, rfl, _⟩ | ⟨rfl, rfl, _⟩
    rotate_right
    · cases bl
      all_goals
        go_enter Try.func8, Try.ntmps8
        go_wp2_with (first
            | (go_at_call 9; refine (fixed_at _).mono ?_; rintro e w2 ⟨rfl, hB2⟩)
            | (go_at_call 10; refine (S1.out _).mono ?_; rintro e w3 ⟨rfl, rfl⟩)
            | (go_at_call 12; refine (S2.out _).mono ?_; rintro e w3 ⟨rfl, rfl⟩)
            | (go_at_call 14; refine (S3.out _).mono ?_; rintro e w3 ⟨rfl, rfl⟩)
            | (go_at_call 16; refine (S4.out _).mono ?_; rintro e w3 ⟨rfl, rfl⟩))
        go_loop [4] (fun i => i = .int .i64 0) (fun i => 0)
        case atStart => rfl
        case round =>
          subst hrel
          go_wp2
          go_ret
          exact ⟨rfl, hB2⟩
    all_goals
      go_enter Try.func8, Try.ntmps8
      go_wp2_with (first
            | (go_at_call 9; refine (fixed_at _).mono ?_; rintro e w2 ⟨rfl, hB2⟩)
            | (go_at_call 10; refine (S1.out _).mono ?_; rintro e w3 ⟨rfl, rfl⟩)
            | (go_at_call 12; refine (S2.out _).mono ?_; rintro e w3 ⟨rfl, rfl⟩)
            | (go_at_call 14; refine (S3.out _).mono ?_; rintro e w3 ⟨rfl, rfl⟩)
            | (go_at_call 16; refine (S4.out _).mono ?_; rintro e w3 ⟨rfl, rfl⟩))
      go_loop [4] (fun i => i = .int .i64 0) (fun i => 0)
      case atStart => rfl
      case round =>
        subst hrel
        go_wp2
        go_ret
        exact ⟨rfl, hB2⟩
  | false =>
    have g := of_decide_eq_false e4
    clear e4
    obtain ⟨rfl, rfl, rfl⟩ : st = false ∧ re = false ∧ bl = false := by
      rcases hc with ⟨_, _, _, h⟩ | ⟨_, _, _, h⟩ | ⟨a, b, c⟩
      · cases h
      · cases h
      · exact ⟨a, b, c.resolve_left (by simp)⟩
    clear hc
    by_cases g0 : 0 ≤ r
    all_goals try (have g5 : decide (r ≤ 1114111) = false := decide_eq_false (by omega))
    all_goals try (have g6 : decide (0 ≤ r) = false := decide_eq_false (by omega))
    all_goals
      clear g
      go_enter Try.func8, Try.ntmps8
      go_wp2_with (first
            | (go_at_call 9; refine (fixed_at _).mono ?_; rintro e w2 ⟨rfl, hB2⟩)
            | (go_at_call 10; refine (S1.out _).mono ?_; rintro e w3 ⟨rfl, rfl⟩)
            | (go_at_call 12; refine (S2.out _).mono ?_; rintro e w3 ⟨rfl, rfl⟩)
            | (go_at_call 14; refine (S3.out _).mono ?_; rintro e w3 ⟨rfl, rfl⟩)
            | (go_at_call 16; refine (S4.out _).mono ?_; rintro e w3 ⟨rfl, rfl⟩))
      go_loop [4] (fun i => i = .int .i64 0) (fun i => 0)
      case atStart => rfl
      case round =>
        subst hrel
        go_wp2_with (first
            | (go_at_call 9; refine (fixed_at _).mono ?_; rintro e w2 ⟨rfl, hB2⟩)
            | (go_at_call 10; refine (S1.out _).mono ?_; rintro e w3 ⟨rfl, rfl⟩)
            | (go_at_call 12; refine (S2.out _).mono ?_; rintro e w3 ⟨rfl, rfl⟩)
            | (go_at_call 14; refine (S3.out _).mono ?_; rintro e w3 ⟨rfl, rfl⟩)
            | (go_at_call 16; refine (S4.out _).mono ?_; rintro e w3 ⟨rfl, rfl⟩))
        go_ret
        exact ⟨rfl, hB2⟩
theorem classes_walk (r : Int) (w : World) (h1 : -2147483648 ≤ r) (h2 : r ≤ 2147483647) :
    Calls Try.prog 8 #[.int .i32 r] w fun e w' => e = .returned (.bool true) ∧ Below w.heap.size w w' := by
  by_cases hp : plB r = emp
  · refine classes_none r w h1 h2 hp _ _ _ _ rfl rfl rfl rfl ?_
    cases hre : reB r with
    | true =>
      have hin := decide_eq_true (re_bd hre)
      have hbl : blB r = false := by
        cases hb : blB r with
        | false => rfl
        | true => have := (bl_re hb).1; rw [hre] at this; cases this
      cases hst : stB r with
      | true => exact .inl ⟨rfl, rfl, hbl, hin⟩
      | false => exact .inr (.inl ⟨rfl, rfl, hbl, hin⟩)
    | false =>
      have hst : stB r = false := by
        cases hs : stB r with
        | false => rfl
        | true => rw [reB_of hs] at hre; cases hre
      refine .inr (.inr ⟨hst, rfl, ?_⟩)
      cases hb : blB r with
      | false => exact .inr rfl
      | true => exact .inl (decide_eq_true (bl_bd hb))
  · exact classes_sign r w h1 h2 (pl_of hp) hp
end Go.Proofs.Ytdfdbhjgighkpaa.Gl
