/- The program's characters: isLatin, isGreek, Start, Rest, Blank, Plain, Reserved. -/
import Derived.Test.YtiapkblebbcfbaaGreatGlB
import Derived.Test.YtiapkblebbcfbaaGreatGlE
import Derived.Laws.RangeAny
import Derived.Test.YtiapkblebbcfbaaGreatGlMath
import Derived.Laws.Strings
import Derived.Laws.StructEq
namespace Go.Proofs.YtiapkblebbcfbaaGreat.Gl
open Go.RowKit
set_option linter.unusedVariables false

def laB (r : Int) : Bool := decide ((65 ≤ r ∧ r ≤ 90) ∨ (97 ≤ r ∧ r ≤ 122))
def grB (r : Int) : Bool := decide ((913 ≤ r ∧ r ≤ 937 ∧ r ≠ 930) ∨ (945 ≤ r ∧ r ≤ 969))
theorem la_at (r : Int) (w : World) :
    Calls Tryz.prog 119 #[.int .i32 r] w fun e w' => e = .returned (.bool (laB r)) ∧ w = w' := by
  by_cases h1 : r < 65
  · have HE : Hid (laB r = false) := decide_eq_false (by omega)
    have h3 : r < 97 := by omega
    go_enter Tryz.func119, Tryz.ntmps119
    go_wp2
    go_ret
    exact ⟨retb HE.out.symm, rfl⟩
  · have g1 : 65 ≤ r := by omega
    clear h1
    by_cases h2 : r ≤ 90
    · have HE : Hid (laB r = true) := decide_eq_true (by omega)
      go_enter Tryz.func119, Tryz.ntmps119
      go_wp2
      go_ret
      exact ⟨retb HE.out.symm, rfl⟩
    · have g2 : 90 < r := by omega
      have d2 : decide (r ≤ 90) = false := decide_eq_false (by omega)
      clear h2
      by_cases h3 : r < 97
      · have HE : Hid (laB r = false) := decide_eq_false (by omega)
        go_enter Tryz.func119, Tryz.ntmps119
        go_wp2
        go_ret
        exact ⟨retb HE.out.symm, rfl⟩
      · have g3 : 97 ≤ r := by omega
        clear h3
        by_cases h4 : r ≤ 122
        · have HE : Hid (laB r = true) := decide_eq_true (by omega)
          go_enter Tryz.func119, Tryz.ntmps119
          go_wp2
          go_ret
          exact ⟨retb HE.out.symm, rfl⟩
        · have HE : Hid (laB r = false) := decide_eq_false (by omega)
          have g4 : 122 < r := by omega
          have d4 : decide (r ≤ 122) = false := decide_eq_false (by omega)
          clear h4
          go_enter Tryz.func119, Tryz.ntmps119
          go_wp2
          go_ret
          exact ⟨retb HE.out.symm, rfl⟩
theorem gr_at (r : Int) (w : World) :
    Calls Tryz.prog 120 #[.int .i32 r] w fun e w' => e = .returned (.bool (grB r)) ∧ w = w' := by
  by_cases h1 : r < 913
  · have HE : Hid (grB r = false) := decide_eq_false (by omega)
    have h3 : r < 945 := by omega
    go_enter Tryz.func120, Tryz.ntmps120
    go_wp2
    go_ret
    exact ⟨retb HE.out.symm, rfl⟩
  · have g1 : 913 ≤ r := by omega
    clear h1
    by_cases h2 : r ≤ 937
    · by_cases h5 : r = 930
      · have HE : Hid (grB r = false) := decide_eq_false (by omega)
        subst h5
        go_enter Tryz.func120, Tryz.ntmps120
        go_wp2
        go_ret
        exact ⟨retb HE.out.symm, rfl⟩
      · have HE : Hid (grB r = true) := decide_eq_true (by omega)
        have g5 : (r != 930) = true := by simpa using h5
        clear h5
        go_enter Tryz.func120, Tryz.ntmps120
        go_wp2
        go_ret
        exact ⟨retb HE.out.symm, rfl⟩
    · have g2 : 937 < r := by omega
      have d2 : decide (r ≤ 937) = false := decide_eq_false (by omega)
      clear h2
      by_cases h3 : r < 945
      · have HE : Hid (grB r = false) := decide_eq_false (by omega)
        go_enter Tryz.func120, Tryz.ntmps120
        go_wp2
        go_ret
        exact ⟨retb HE.out.symm, rfl⟩
      · have g3 : 945 ≤ r := by omega
        clear h3
        by_cases h4 : r ≤ 969
        · have HE : Hid (grB r = true) := decide_eq_true (by omega)
          go_enter Tryz.func120, Tryz.ntmps120
          go_wp2
          go_ret
          exact ⟨retb HE.out.symm, rfl⟩
        · have HE : Hid (grB r = false) := decide_eq_false (by omega)
          have g4 : 969 < r := by omega
          have d4 : decide (r ≤ 969) = false := decide_eq_false (by omega)
          clear h4
          go_enter Tryz.func120, Tryz.ntmps120
          go_wp2
          go_ret
          exact ⟨retb HE.out.symm, rfl⟩
theorem st_eq (r : Int) : stB r = (laB r || grB r || decide (r = 95)) := by
  unfold stB laB grB
  simp only [withinB]
  rw [Bool.eq_iff_iff]
  simp only [Bool.or_eq_true, Bool.and_eq_true, decide_eq_true_eq, Bool.or_false]
  omega
theorem start_at (r : Int) (w : World) :
    Calls Tryz.prog 110 #[.int .i32 r] w fun e w' => e = .returned (.bool (stB r)) ∧ w = w' := by
  have hst := st_eq r
  have LA : ∀ c, laB r = c → Hid (∀ w, Calls Tryz.prog 119 #[.int .i32 r] w fun e w' => e = .returned (.bool c) ∧ w = w') := fun c h w => by rw [← h]; exact la_at r w
  have GR : ∀ c, grB r = c → Hid (∀ w, Calls Tryz.prog 120 #[.int .i32 r] w fun e w' => e = .returned (.bool c) ∧ w = w') := fun c h w => by rw [← h]; exact gr_at r w
  cases hl : laB r with
  | true =>
    have L0 := LA _ hl
    have HE : Hid (stB r = true) := by show _ = _; rw [hst, hl]; rfl
    clear LA GR hl hst
    go_enter Tryz.func110, Tryz.ntmps110
    go_wp2_with (go_at_call 119; refine (L0.out _).mono ?_; rintro e w1 ⟨rfl, rfl⟩)
    go_ret
    exact ⟨retb HE.out.symm, rfl⟩
  | false =>
    have L0 := LA _ hl
    cases hg : grB r with
    | true =>
      have G0 := GR _ hg
      have HE : Hid (stB r = true) := by show _ = _; rw [hst, hl, hg]; rfl
      clear LA GR hl hst hg
      go_enter Tryz.func110, Tryz.ntmps110
      go_wp2_with (first
        | (go_at_call 119; refine (L0.out _).mono ?_; rintro e w1 ⟨rfl, rfl⟩)
        | (go_at_call 120; refine (G0.out _).mono ?_; rintro e w1 ⟨rfl, rfl⟩))
      go_ret
      exact ⟨retb HE.out.symm, rfl⟩
    | false =>
      have G0 := GR _ hg
      by_cases h95 : r = 95
      · have HE : Hid (stB r = true) := by show _ = _; rw [hst, hl, hg, decide_eq_true h95]; rfl
        have g95 : (r == 95) = true := by simpa using h95
        clear LA GR hl hst hg h95
        go_enter Tryz.func110, Tryz.ntmps110
        go_wp2_with (first
          | (go_at_call 119; refine (L0.out _).mono ?_; rintro e w1 ⟨rfl, rfl⟩)
          | (go_at_call 120; refine (G0.out _).mono ?_; rintro e w1 ⟨rfl, rfl⟩))
        go_ret
        exact ⟨retb HE.out.symm, rfl⟩
      · have HE : Hid (stB r = false) := by show _ = _; rw [hst, hl, hg, decide_eq_false h95]; rfl
        have g95 : (r == 95) = false := by simpa using h95
        clear LA GR hl hst hg h95
        go_enter Tryz.func110, Tryz.ntmps110
        go_wp2_with (first
          | (go_at_call 119; refine (L0.out _).mono ?_; rintro e w1 ⟨rfl, rfl⟩)
          | (go_at_call 120; refine (G0.out _).mono ?_; rintro e w1 ⟨rfl, rfl⟩))
        go_ret
        exact ⟨retb HE.out.symm, rfl⟩
theorem re_eq (r : Int) : reB r = (stB r || decide ((48 ≤ r ∧ r ≤ 57) ∨ r = 8242 ∨ (8320 ≤ r ∧ r ≤ 8329))) := by
  unfold reB
  simp only [withinB]
  congr 1
  rw [Bool.eq_iff_iff]
  simp only [Bool.or_eq_true, Bool.and_eq_true, decide_eq_true_eq, Bool.or_false]
  omega
set_option maxHeartbeats 1000000 in
theorem rest_at (r : Int) (w : World) :
    Calls Tryz.prog 109 #[.int .i32 r] w fun e w' => e = .returned (.bool (reB r)) ∧ w = w' := by
  have hre := re_eq r
  have ST : ∀ c, stB r = c → Hid (∀ w, Calls Tryz.prog 110 #[.int .i32 r] w fun e w' => e = .returned (.bool c) ∧ w = w') := fun c h w => by rw [← h]; exact start_at r w
  cases hs : stB r with
  | true =>
    have S0 := ST _ hs
    have HE : Hid (reB r = true) := by show _ = _; rw [hre, hs]; rfl
    clear ST hs hre
    go_enter Tryz.func109, Tryz.ntmps109
    go_wp2_with (go_at_call 110; refine (S0.out _).mono ?_; rintro e w1 ⟨rfl, rfl⟩)
    go_ret
    exact ⟨retb HE.out.symm, rfl⟩
  | false =>
    have S0 := ST _ hs
    rw [hs, Bool.false_or] at hre
    have HR : Hid (reB r = decide ((48 ≤ r ∧ r ≤ 57) ∨ r = 8242 ∨ (8320 ≤ r ∧ r ≤ 8329))) := hre
    clear ST hs hre
    by_cases h1 : r < 48
    · have HE : Hid (reB r = false) := HR.out.trans (decide_eq_false (by omega))
      have g1 : (r == 8242) = false := by simp; omega
      have g2 : r < 8320 := by omega
      go_enter Tryz.func109, Tryz.ntmps109
      go_wp2_with (go_at_call 110; refine (S0.out _).mono ?_; rintro e w1 ⟨rfl, rfl⟩)
      go_ret
      exact ⟨retb HE.out.symm, rfl⟩
    · have g1 : 48 ≤ r := by omega
      clear h1
      by_cases h2 : r ≤ 57
      · have HE : Hid (reB r = true) := HR.out.trans (decide_eq_true (by omega))
        go_enter Tryz.func109, Tryz.ntmps109
        go_wp2_with (go_at_call 110; refine (S0.out _).mono ?_; rintro e w1 ⟨rfl, rfl⟩)
        go_ret
        exact ⟨retb HE.out.symm, rfl⟩
      · have g2 : 57 < r := by omega
        have d2 : decide (r ≤ 57) = false := decide_eq_false (by omega)
        clear h2
        by_cases h3 : r = 8242
        · have HE : Hid (reB r = true) := HR.out.trans (decide_eq_true (by omega))
          have g3 : (r == 8242) = true := by simpa using h3
          clear h3
          go_enter Tryz.func109, Tryz.ntmps109
          go_wp2_with (go_at_call 110; refine (S0.out _).mono ?_; rintro e w1 ⟨rfl, rfl⟩)
          go_ret
          exact ⟨retb HE.out.symm, rfl⟩
        · have g3 : (r == 8242) = false := by simpa using h3
          by_cases h4 : r < 8320
          · have HE : Hid (reB r = false) := HR.out.trans (decide_eq_false (by omega))
            clear h3
            go_enter Tryz.func109, Tryz.ntmps109
            go_wp2_with (go_at_call 110; refine (S0.out _).mono ?_; rintro e w1 ⟨rfl, rfl⟩)
            go_ret
            exact ⟨retb HE.out.symm, rfl⟩
          · have g4 : 8320 ≤ r := by omega
            clear h4
            by_cases h5 : r ≤ 8329
            · have HE : Hid (reB r = true) := HR.out.trans (decide_eq_true (by omega))
              clear h3
              go_enter Tryz.func109, Tryz.ntmps109
              go_wp2_with (go_at_call 110; refine (S0.out _).mono ?_; rintro e w1 ⟨rfl, rfl⟩)
              go_ret
              exact ⟨retb HE.out.symm, rfl⟩
            · have HE : Hid (reB r = false) := HR.out.trans (decide_eq_false (by omega))
              have g5 : 8329 < r := by omega
              have d5 : decide (r ≤ 8329) = false := decide_eq_false (by omega)
              clear h3 h5
              go_enter Tryz.func109, Tryz.ntmps109
              go_wp2_with (go_at_call 110; refine (S0.out _).mono ?_; rintro e w1 ⟨rfl, rfl⟩)
              go_ret
              exact ⟨retb HE.out.symm, rfl⟩
theorem pl_none (r : Int) (h : ∀ m ∈ marks, m ≠ r) : plB r = emp := by
  unfold plB
  have key : ∀ (ms : List Int) (xs : List ByteArray), (∀ m ∈ ms, m ≠ r) → look r ms xs = emp := by
    intro ms
    induction ms with
    | nil => intro xs _; rfl
    | cons m ms ih =>
      intro xs h
      cases xs with
      | nil => rfl
      | cons x xs =>
        rw [look, if_neg (h m (List.mem_cons_self ..))]
        exact ih xs (fun y hy => h y (List.mem_cons_of_mem _ hy))
  exact key _ _ h
abbrev wordsL : List (List UInt8) := [[97, 110, 100], [111, 114], [110, 111, 116], [101, 120], [97, 108, 108], [109, 111, 100], [116, 114, 117, 101], [102, 97, 108, 115, 101]]
theorem words_eq : words.map ByteArray.toList = wordsL := by decide +kernel
theorem rs_eq (s : ByteArray) : rsB s = wordsL.any (fun x => s.toList == x) := by
  unfold rsB
  rw [← words_eq]
  have key : ∀ l : List ByteArray, anyS s l = (l.map ByteArray.toList).any (fun x => s.toList == x) := by
    intro l
    induction l with
    | nil => rfl
    | cons x l ih => rw [anyS, List.map_cons, List.any_cons, ih]; congr 1; rw [Bool.eq_iff_iff, beq_iff_eq, beq_iff_eq]; exact eq_comm
  exact key _
set_option maxHeartbeats 1000000 in
theorem reserved_at (s : ByteArray) (w : World) :
    Calls Tryz.prog 111 #[.string s] w fun e w' => e = .returned (.bool (rsB s)) ∧ w = w' := by
  have hr := rs_eq s
  simp only [wordsL, List.any_cons, List.any_nil, Bool.or_false] at hr
  have HR : Hid _ := hr
  clear hr
  cases e1 : (s.toList == ([97, 110, 100] : List UInt8)) with
  | true =>
    have HE : Hid (rsB s = true) := by show _ = _; rw [HR.out, e1]; rfl
    clear HR
    go_enter Tryz.func111, Tryz.ntmps111
    go_wp2
    go_ret
    exact ⟨retb HE.out.symm, rfl⟩
  | false =>
    cases e2 : (s.toList == ([111, 114] : List UInt8)) with
    | true =>
      have HE : Hid (rsB s = true) := by show _ = _; rw [HR.out, e1, e2]; rfl
      clear HR
      go_enter Tryz.func111, Tryz.ntmps111
      go_wp2
      go_ret
      exact ⟨retb HE.out.symm, rfl⟩
    | false =>
      cases e3 : (s.toList == ([110, 111, 116] : List UInt8)) with
      | true =>
        have HE : Hid (rsB s = true) := by show _ = _; rw [HR.out, e1, e2, e3]; rfl
        clear HR
        go_enter Tryz.func111, Tryz.ntmps111
        go_wp2
        go_ret
        exact ⟨retb HE.out.symm, rfl⟩
      | false =>
        cases e4 : (s.toList == ([101, 120] : List UInt8)) with
        | true =>
          have HE : Hid (rsB s = true) := by show _ = _; rw [HR.out, e1, e2, e3, e4]; rfl
          clear HR
          go_enter Tryz.func111, Tryz.ntmps111
          go_wp2
          go_ret
          exact ⟨retb HE.out.symm, rfl⟩
        | false =>
          cases e5 : (s.toList == ([97, 108, 108] : List UInt8)) with
          | true =>
            have HE : Hid (rsB s = true) := by show _ = _; rw [HR.out, e1, e2, e3, e4, e5]; rfl
            clear HR
            go_enter Tryz.func111, Tryz.ntmps111
            go_wp2
            go_ret
            exact ⟨retb HE.out.symm, rfl⟩
          | false =>
            cases e6 : (s.toList == ([109, 111, 100] : List UInt8)) with
            | true =>
              have HE : Hid (rsB s = true) := by show _ = _; rw [HR.out, e1, e2, e3, e4, e5, e6]; rfl
              clear HR
              go_enter Tryz.func111, Tryz.ntmps111
              go_wp2
              go_ret
              exact ⟨retb HE.out.symm, rfl⟩
            | false =>
              cases e7 : (s.toList == ([116, 114, 117, 101] : List UInt8)) with
              | true =>
                have HE : Hid (rsB s = true) := by show _ = _; rw [HR.out, e1, e2, e3, e4, e5, e6, e7]; rfl
                clear HR
                go_enter Tryz.func111, Tryz.ntmps111
                go_wp2
                go_ret
                exact ⟨retb HE.out.symm, rfl⟩
              | false =>
                cases e8 : (s.toList == ([102, 97, 108, 115, 101] : List UInt8)) with
                | true =>
                  have HE : Hid (rsB s = true) := by show _ = _; rw [HR.out, e1, e2, e3, e4, e5, e6, e7, e8]; rfl
                  clear HR
                  go_enter Tryz.func111, Tryz.ntmps111
                  go_wp2
                  go_ret
                  exact ⟨retb HE.out.symm, rfl⟩
                | false =>
                  have HE : Hid (rsB s = false) := by show _ = _; rw [HR.out, e1, e2, e3, e4, e5, e6, e7, e8]; rfl
                  clear HR
                  go_enter Tryz.func111, Tryz.ntmps111
                  go_wp2
                  go_ret
                  exact ⟨retb HE.out.symm, rfl⟩
end Go.Proofs.YtiapkblebbcfbaaGreat.Gl
/- The program's characters, Name. -/
namespace Go.Proofs.YtiapkblebbcfbaaGreat.Gl
open Go.RowKit
set_option linter.unusedVariables false

theorem iter_below (w : World) (s : ByteArray) (p : Nat) : Below w.heap.size w (w.iter s p) := (Below.refl _ _).alloc (Nat.le_refl _) _
theorem next_at (w : World) (s : ByteArray) (p r wd : Nat) (hp : p < s.size) (h1 : (rdS s p).1 = r) (h2 : (rdS s p).2.1 = wd) (ty : TypeId) :
    (Instr.next (.pointer (some ⟨w.heap.size, 0, none⟩)) true ty).run Tryz.prog (w.iter s p) = .ok (.tuple #[.bool true, .int .i64 p, .int .i32 r]) (w.iter s (p + wd)) := by
  subst h1; subst h2
  exact run_next_any w s p ty hp
theorem ok_of_re {s : ByteArray} {p : Nat} (h : reB ((rdS s p).1 : Nat) = true) : (rdS s p).2.2 = true := by
  unfold rdS at h ⊢
  dsimp only at h ⊢
  by_cases hc : (Utf8.decode s p).1 = 65533
  · rw [hc] at h; exact absurd h (by decide)
  · have : ((Utf8.decode s p).1 == 65533) = false := by simpa using hc
    rw [this]; rfl
set_option maxHeartbeats 2000000 in
theorem name_at (s : ByteArray) (b : Bool) (w : World) (hs : s.size ≤ 9223372036854775807) (hb : b = true ↔ IsName s) :
    Calls Tryz.prog 92 #[.string s] w fun e w' => e = .returned (.bool b) ∧ Below w.heap.size w w' := by
  have HB : Hid (b = true ↔ IsName s) := hb
  clear hb
  go_enter Tryz.func92, Tryz.ntmps92
  go_wp2
  go_loopw [3] (fun m wr => ∃ k : Nat, k ≤ 16 ∧ m = .int .i64 k ∧ wr = w.iter s (pos s k) ∧ Hid (Nms s k)) (fun _ wr => s.size - wr.iterPos w.heap.size)
  case atStart => exact ⟨0, by omega, rfl, rfl, fun j hj => absurd hj (by omega)⟩
  case round =>
    obtain ⟨k, hk16, rfl, rfl, hall⟩ := hrel
    obtain ⟨hg1, hg2⟩ := pos_ge s k hall.out.lt
    by_cases hlt : pos s k < s.size
    · obtain ⟨hb1, hb2, hb3⟩ := rd_bd s (pos s k) hlt
      have HS : Hid (pos s (k + 1) = pos s k + (rdS s (pos s k)).2.1) := pos_succ s k
      have HNO : Hid (¬ (reB ((rdS s (pos s k)).1 : Nat) = true ∧ (k = 0 → stB ((rdS s (pos s k)).1 : Nat) = true)) → b = false) := fun h => by
        cases b with
        | false => rfl
        | true => exact absurd (HB.out.1 rfl) (name_no hlt hall.out.lt (fun h' => h h'.2))
      have HYES : Hid (reB ((rdS s (pos s k)).1 : Nat) = true ∧ (k = 0 → stB ((rdS s (pos s k)).1 : Nat) = true) → Nms s (k + 1)) := fun h j hj => by
        rcases Nat.lt_succ_iff_lt_or_eq.1 hj with hj | rfl
        · exact hall.out j hj
        · exact ⟨hlt, ok_of_re h.1, h⟩
      have H16 : Hid (k = 16 → b = false) := fun h => by
        cases b with
        | false => rfl
        | true =>
          obtain ⟨⟨n, hn, _, h2, _⟩, _⟩ := HB.out.1 rfl
          have hkn : k + 1 ≤ n := cnt_lt hn (fun j hj => by
            rcases Nat.lt_succ_iff_lt_or_eq.1 hj with hj | rfl
            · exact hall.out.lt j hj
            · exact hlt)
          omega
      have hnx := next_at w s (pos s k) _ _ hlt rfl rfl
      generalize hp : pos s k = p at *
      clear hp
      generalize hr : (rdS s p).1 = r at *
      generalize hw : (rdS s p).2.1 = wd at *
      clear hr hw
      by_cases h16 : k = 16
      · have HE : Hid (b = false) := H16.out h16
        subst h16
        clear HNO HYES H16
        go_wp2
        go_ret
        exact ⟨retb HE.out.symm, iter_below _ _ _⟩
      · have hk16' : ((k : Int) == 16) = false := by simp; omega
        have hk17 : k + 1 ≤ 16 := by omega
        have RS : ∀ c, reB (r : Nat) = c → Hid (∀ w, Calls Tryz.prog 109 #[.int .i32 (r : Nat)] w fun e w' => e = .returned (.bool c) ∧ w = w') := fun c h w => by rw [← h]; exact rest_at r w
        have SS : ∀ c, stB (r : Nat) = c → Hid (∀ w, Calls Tryz.prog 110 #[.int .i32 (r : Nat)] w fun e w' => e = .returned (.bool c) ∧ w = w') := fun c h w => by rw [← h]; exact start_at r w
        clear h16
        cases hre : reB (r : Nat) with
        | false =>
          have HE : Hid (b = false) := HNO.out (fun h => by have := h.1; rw [hre] at this; cases this)
          have R0 := RS _ hre
          clear SS RS hre HNO HYES H16
          go_wp2_with (go_at_call 109; refine (R0.out _).mono ?_; rintro e w2 ⟨rfl, rfl⟩)
          go_ret
          exact ⟨retb HE.out.symm, iter_below _ _ _⟩
        | true =>
          have R0 := RS _ hre
          rcases Nat.eq_zero_or_pos k with hk | hk
          · subst hk
            cases hst : stB (r : Nat) with
            | false =>
              have HE : Hid (b = false) := HNO.out (fun h => by have := h.2 rfl; rw [hst] at this; cases this)
              have S0 := SS _ hst
              clear SS RS hst hre HNO HYES H16
              go_wp2_with (first
                | (go_at_call 109; refine (R0.out _).mono ?_; rintro e w2 ⟨rfl, rfl⟩)
                | (go_at_call 110; refine (S0.out _).mono ?_; rintro e w2 ⟨rfl, rfl⟩))
              go_ret
              exact ⟨retb HE.out.symm, iter_below _ _ _⟩
            | true =>
              have HY : Hid (Nms s (0 + 1)) := HYES.out ⟨hre, fun _ => hst⟩
              have S0 := SS _ hst
              clear SS RS hst hre HNO HYES H16
              go_wp2_with (first
                | (go_at_call 109; refine (R0.out _).mono ?_; rintro e w2 ⟨rfl, rfl⟩)
                | (go_at_call 110; refine (S0.out _).mono ?_; rintro e w2 ⟨rfl, rfl⟩))
              go_roundw
              case rel => exact ⟨0 + 1, by omega, by go_num, by rw [HS.out], HY⟩
              case measure => simp only [World.iterPos_iter]; omega
          · have hk0 : ((k : Int) == 0) = false := by simp; omega
            have HY : Hid (Nms s (k + 1)) := HYES.out ⟨hre, fun h => by omega⟩
            clear SS RS hre HNO HYES H16
            go_wp2_with (go_at_call 109; refine (R0.out _).mono ?_; rintro e w2 ⟨rfl, rfl⟩)
            go_roundw
            case rel => exact ⟨k + 1, by omega, by go_num, by rw [HS.out], HY⟩
            case measure => simp only [World.iterPos_iter]; omega
    · have HC : Hid (IsCnt s k) := ⟨by omega, hall.out.lt⟩
      have HP : Hid (b = true ↔ 1 ≤ k ∧ rsB s = false) := by
        show _ ↔ _
        rw [HB.out]
        constructor
        · rintro ⟨⟨n, hn, h1, h2, _⟩, h3⟩
          have := cnt_one hn HC.out
          exact ⟨by omega, h3⟩
        · rintro ⟨h1, h3⟩
          exact ⟨⟨k, HC.out, h1, hk16, hall.out⟩, h3⟩
      have hnx := fun ty => run_next_end (P := Tryz.prog) w s (pos s k) ty hlt
      generalize hp : pos s k = p at *
      clear hp
      by_cases hk : 1 ≤ k
      · have RV : ∀ c, rsB s = c → Hid (∀ w, Calls Tryz.prog 111 #[.string s] w fun e w' => e = .returned (.bool c) ∧ w = w') := fun c h w => by rw [← h]; exact reserved_at s w
        cases hrs : rsB s with
        | false =>
          have HE : Hid (b = true) := HP.out.2 ⟨hk, hrs⟩
          have R0 := RV _ hrs
          clear RV hrs
          go_wp2_with (go_at_call 111; refine (R0.out _).mono ?_; rintro e w2 ⟨rfl, rfl⟩)
          go_ret
          exact ⟨retb HE.out.symm, iter_below _ _ _⟩
        | true =>
          have HE : Hid (b = false) := by
            cases b with
            | false => rfl
            | true => have := (HP.out.1 rfl).2; rw [hrs] at this; cases this
          have R0 := RV _ hrs
          clear RV hrs
          go_wp2_with (go_at_call 111; refine (R0.out _).mono ?_; rintro e w2 ⟨rfl, rfl⟩)
          go_ret
          exact ⟨retb HE.out.symm, iter_below _ _ _⟩
      · have HE : Hid (b = false) := by
          cases b with
          | false => rfl
          | true => exact absurd (HP.out.1 rfl).1 hk
        obtain rfl : k = 0 := by omega
        clear hk
        go_wp2
        go_ret
        exact ⟨retb HE.out.symm, iter_below _ _ _⟩
end Go.Proofs.YtiapkblebbcfbaaGreat.Gl
/- U+FFFD in a text: plain mathematics. -/
namespace Go.Proofs.YtiapkblebbcfbaaGreat.Gl
set_option linter.unusedVariables false

/-- the three bytes of U+FFFD stand at p -/
def Fd (s : ByteArray) (p : Nat) : Prop := p + 3 ≤ s.size ∧ bt s p = 239 ∧ bt s (p + 1) = 191 ∧ bt s (p + 2) = 189
theorem rd_fffd (s : ByteArray) (p : Nat) (hp : p < s.size) (h : (rdS s p).1 = 65533) : (rdS s p).2.2 = true ↔ Fd s p := by
  have hb := bt_lt s p
  have hb1 := bt_lt s (p + 1)
  have hb2 := bt_lt s (p + 2)
  unfold Fd
  by_cases h1 : bt s p < 128
  · rw [rd_one s p h1] at h; dsimp only at h; omega
  · by_cases h2 : (128 ≤ bt s p ∧ bt s p < 194) ∨ 245 ≤ bt s p
    · rw [rd_bad0 s p h2]; dsimp only
      exact ⟨fun e => (by cases e), fun e => (by omega)⟩
    · by_cases h3 : bt s p < 224
      · rw [rd_two s p (by omega)] at h ⊢
        split at h
        · rename_i hc
          have e : accB s p (bt s p - 192) 1 = (bt s p - 192) * 64 + (bt s (p + 1) - 128) := rfl
          dsimp only at h
          have := hc.2.1 0 (by omega)
          omega
        · rename_i hc
          rw [if_neg hc]; dsimp only
          exact ⟨fun e => (by cases e), fun e => (by omega)⟩
      · by_cases h4 : bt s p < 240
        · have e : accB s p (bt s p - 224) 2 = ((bt s p - 224) * 64 + (bt s (p + 1) - 128)) * 64 + (bt s (p + 2) - 128) := rfl
          rw [rd_three s p (by omega)] at h ⊢
          split at h
          · rename_i hc
            rw [if_pos hc]; dsimp only at h ⊢
            have k0 := hc.2.1 0 (by omega)
            have k1 := hc.2.1 1 (by omega)
            have hc1 := hc.1
            refine ⟨fun _ => ?_, fun _ => rfl⟩
            rw [e] at h
            have k1' : 128 ≤ bt s (p + 2) ∧ bt s (p + 2) < 192 := k1
            simp only [Nat.zero_add] at k0
            omega
          · rename_i hc
            rw [if_neg hc]; dsimp only
            refine ⟨fun e => (by cases e), fun ⟨f0, f1, f2, f3⟩ => absurd ⟨by omega, ?_, ?_⟩ hc⟩
            · intro k hk
              rcases (show k = 0 ∨ k = 1 by omega) with rfl | rfl
              · simp only [Nat.zero_add]; omega
              · show 128 ≤ bt s (p + 2) ∧ bt s (p + 2) < 192
                omega
            · rw [e, f1, f2, f3]; omega
        · rw [rd_four s p (by omega)] at h ⊢
          split at h
          · rename_i hc
            dsimp only at h
            have := hc.2.2.1
            omega
          · rename_i hc
            rw [if_neg hc]; dsimp only
            exact ⟨fun e => (by cases e), fun e => (by omega)⟩
theorem rd_ok (s : ByteArray) (p : Nat) (h : (rdS s p).1 ≠ 65533) : (rdS s p).2.2 = true := by
  unfold rdS at h ⊢
  dsimp only at h ⊢
  have : ((Utf8.decode s p).1 == 65533) = false := by simpa using h
  rw [this]; rfl
theorem bt_extract (s : ByteArray) (i j k : Nat) (h : i + k < j) (hj : j ≤ s.size) : bt (s.extract i j) k = bt s (i + k) := by
  rw [bt_of _ k (by rw [ByteArray.size_extract]; omega), bt_of s (i + k) (by omega), ByteArray.getElem_extract]
theorem list_three (t : ByteArray) (h : t.size = 3) : t.toList = [t[0], t[1], t[2]] := by
  rw [ByteArray.toList_eq]
  cases t with
  | mk d =>
    have hd : d.size = 3 := h
    have hl : d.toList.length = 3 := by simpa using hd
    apply List.ext_getElem
    · simp [hd]
    · intro i h1 h2
      rcases (show i = 0 ∨ i = 1 ∨ i = 2 by simp at h2; omega) with rfl | rfl | rfl <;> rfl
theorem three_iff (t : ByteArray) (h : t.size = 3) : (t.toList == [239, 191, 189]) = true ↔ bt t 0 = 239 ∧ bt t 1 = 191 ∧ bt t 2 = 189 := by
  rw [beq_iff_eq, list_three t h, bt_of t 0 (by omega), bt_of t 1 (by omega), bt_of t 2 (by omega)]
  simp only [List.cons.injEq, and_true]
  have key : ∀ (x : UInt8) (n : Nat) (hn : n < 256), x = UInt8.ofNat n ↔ x.toNat = n := fun x n hn => by
    rw [← UInt8.toNat_inj, UInt8.toNat_ofNat']; omega
  rw [← key t[0] 239 (by omega), ← key t[1] 191 (by omega), ← key t[2] 189 (by omega)]
  exact Iff.rfl
/-- 's[p:p+3]' is U+FFFD -/
theorem cut3_iff (s : ByteArray) (p : Nat) (h : p + 3 ≤ s.size) : ((s.extract p (p + 3)).toList == [239, 191, 189]) = true ↔ Fd s p := by
  rw [three_iff _ (by rw [ByteArray.size_extract]; omega), bt_extract s p (p + 3) 0 (by omega) h, bt_extract s p (p + 3) 1 (by omega) h, bt_extract s p (p + 3) 2 (by omega) h]
  unfold Fd
  exact ⟨fun ⟨a, b, c⟩ => ⟨h, a, b, c⟩, fun ⟨_, a, b, c⟩ => ⟨a, b, c⟩⟩
/-- the beginning of 's[p:]' is U+FFFD -/
theorem pre3_iff (s : ByteArray) (p : Nat) (hp : p ≤ s.size) (h : 3 ≤ (s.extract p s.size).size) : (((s.extract p s.size).extract 0 3).toList == [239, 191, 189]) = true ↔ Fd s p := by
  have h' : p + 3 ≤ s.size := by rw [ByteArray.size_extract] at h; omega
  have e : ∀ k, k < 3 → bt ((s.extract p s.size).extract 0 3) k = bt s (p + k) := fun k hk => by
    rw [bt_extract _ 0 3 k (by omega) h, bt_extract s p s.size (0 + k) (by omega) (Nat.le_refl _), Nat.zero_add]
  rw [three_iff _ (by rw [ByteArray.size_extract]; omega), e 0 (by omega), e 1 (by omega), e 2 (by omega)]
  unfold Fd
  exact ⟨fun ⟨a, b, c⟩ => ⟨h', a, b, c⟩, fun ⟨_, a, b, c⟩ => ⟨a, b, c⟩⟩
theorem pre3_no (s : ByteArray) (p : Nat) (hp : p ≤ s.size) (h : (s.extract p s.size).size < 3) : ¬ Fd s p := by
  rintro ⟨h1, _⟩
  rw [ByteArray.size_extract] at h; omega
end Go.Proofs.YtiapkblebbcfbaaGreat.Gl
/- The program's Good, At. -/
namespace Go.Proofs.YtiapkblebbcfbaaGreat.Gl
open Go.RowKit
set_option linter.unusedVariables false

theorem bool_of_iff {a b : Bool} (h : a = true ↔ b = true) : a = b := Bool.eq_iff_iff.2 h
theorem bcell {W w1 : World} (hb : Below W.heap.size W w1) : (∀ b o, b < W.heap.size → w1.cell? ⟨b, o, none⟩ = W.cell? ⟨b, o, none⟩) ∧ (∀ b o, b < W.heap.size → w1.frozen? ⟨b, o, none⟩ = W.frozen? ⟨b, o, none⟩) :=
  ⟨fun b o h => hb.cell (p := ⟨b, o, none⟩) h, fun b o h => hb.frozen (p := ⟨b, o, none⟩) h⟩
end Go.Proofs.YtiapkblebbcfbaaGreat.Gl
/- The law's fixed; the walks of GlyphChars, GlyphNames. -/
namespace Go.Proofs.YtiapkblebbcfbaaGreat.Gl
open Go.RowKit
set_option linter.unusedVariables false

theorem bt2 {w w1 w2 : World} (h : Below w.heap.size w w1) (k : Below w1.heap.size w1 w2) : Below w.heap.size w w2 := h.trans (k.mono h.size)
theorem bta {w w1 : World} (h : Below w.heap.size w w1) (o : Obj) : Below w.heap.size w (w1.alloc o) := h.alloc h.size o
theorem fx_cnt : IsCnt ((⟨#[97, 195, 169, 98]⟩ : ByteArray).extract 0 3) 2 := by unfold IsCnt; decide +kernel
theorem fx_yes : IsName ⟨#[206, 177, 226, 130, 129]⟩ := by
  refine ⟨⟨2, by unfold IsCnt; decide +kernel, by omega, by omega, ?_⟩, by decide +kernel⟩
  unfold Nms; decide +kernel
theorem fx_no : ¬ IsName ⟨#[97, 110, 100]⟩ := fun h => absurd h.2 (by decide +kernel)
open Classical in
theorem bool_for (p : Prop) : ∃ b : Bool, b = true ↔ p := ⟨decide p, by simp⟩
theorem good_is (s : ByteArray) : ∃ g, IsGood s g := by
  have key : ∀ n, (∃ g, IsGood s g) ∨ (n ≤ pos s n ∧ Oks s n) := by
    intro n
    induction n with
    | zero => right; exact ⟨Nat.zero_le _, fun j hj => absurd hj (by omega)⟩
    | succ n ih =>
      rcases ih with h | ⟨h1, h2⟩
      · exact .inl h
      · have hle := (pos_ge s n h2.lt).2
        by_cases hlt : pos s n < s.size
        · cases ho : (rdS s (pos s n)).2.2 with
          | true =>
            right
            refine ⟨?_, fun j hj => ?_⟩
            · have := rd_bd s (pos s n) hlt
              rw [pos_succ]; omega
            · rcases Nat.lt_succ_iff_lt_or_eq.1 hj with hj | rfl
              · exact h2 j hj
              · exact ⟨hlt, ho⟩
          | false => left; exact ⟨_, n, rfl, h2, .inr ⟨hlt, ho⟩⟩
        · left; exact ⟨_, n, rfl, h2, .inl (by omega)⟩
  rcases key (s.size + 1) with h | ⟨h1, h2⟩
  · exact h
  · have := (pos_ge s (s.size + 1) h2.lt).2
    omega
end Go.Proofs.YtiapkblebbcfbaaGreat.Gl
