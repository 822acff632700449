/- The program's characters: isLatin, isGreek, Start, Rest, Blank, Plain, Reserved. -/
import Derived.Test.YtiihabecncnbcaaGlB
namespace Go.Proofs.Ytiihabecncnbcaa.Gl
open Go.RowKit
set_option linter.unusedVariables false

def laB (r : Int) : Bool := decide ((65 ≤ r ∧ r ≤ 90) ∨ (97 ≤ r ∧ r ≤ 122))
def grB (r : Int) : Bool := decide ((913 ≤ r ∧ r ≤ 937 ∧ r ≠ 930) ∨ (945 ≤ r ∧ r ≤ 969))
theorem la_at (r : Int) (w : World) :
    Calls Try.prog 54 #[.int .i32 r] w fun e w' => e = .returned (.bool (laB r)) ∧ w = w' := by
  by_cases h1 : r < 65
  · have HE : Hid (laB r = false) := decide_eq_false (by omega)
    have h3 : r < 97 := by omega
    go_enter Try.func54, Try.ntmps54
    go_wp2
    go_ret
    exact ⟨retb HE.out.symm, rfl⟩
  · have g1 : 65 ≤ r := by omega
    clear h1
    by_cases h2 : r ≤ 90
    · have HE : Hid (laB r = true) := decide_eq_true (by omega)
      go_enter Try.func54, Try.ntmps54
      go_wp2
      go_ret
      exact ⟨retb HE.out.symm, rfl⟩
    · have g2 : 90 < r := by omega
      have d2 : decide (r ≤ 90) = false := decide_eq_false (by omega)
      clear h2
      by_cases h3 : r < 97
      · have HE : Hid (laB r = false) := decide_eq_false (by omega)
        go_enter Try.func54, Try.ntmps54
        go_wp2
        go_ret
        exact ⟨retb HE.out.symm, rfl⟩
      · have g3 : 97 ≤ r := by omega
        clear h3
        by_cases h4 : r ≤ 122
        · have HE : Hid (laB r = true) := decide_eq_true (by omega)
          go_enter Try.func54, Try.ntmps54
          go_wp2
          go_ret
          exact ⟨retb HE.out.symm, rfl⟩
        · have HE : Hid (laB r = false) := decide_eq_false (by omega)
          have g4 : 122 < r := by omega
          have d4 : decide (r ≤ 122) = false := decide_eq_false (by omega)
          clear h4
          go_enter Try.func54, Try.ntmps54
          go_wp2
          go_ret
          exact ⟨retb HE.out.symm, rfl⟩
theorem gr_at (r : Int) (w : World) :
    Calls Try.prog 55 #[.int .i32 r] w fun e w' => e = .returned (.bool (grB r)) ∧ w = w' := by
  by_cases h1 : r < 913
  · have HE : Hid (grB r = false) := decide_eq_false (by omega)
    have h3 : r < 945 := by omega
    go_enter Try.func55, Try.ntmps55
    go_wp2
    go_ret
    exact ⟨retb HE.out.symm, rfl⟩
  · have g1 : 913 ≤ r := by omega
    clear h1
    by_cases h2 : r ≤ 937
    · by_cases h5 : r = 930
      · have HE : Hid (grB r = false) := decide_eq_false (by omega)
        subst h5
        go_enter Try.func55, Try.ntmps55
        go_wp2
        go_ret
        exact ⟨retb HE.out.symm, rfl⟩
      · have HE : Hid (grB r = true) := decide_eq_true (by omega)
        have g5 : (r != 930) = true := by simpa using h5
        clear h5
        go_enter Try.func55, Try.ntmps55
        go_wp2
        go_ret
        exact ⟨retb HE.out.symm, rfl⟩
    · have g2 : 937 < r := by omega
      have d2 : decide (r ≤ 937) = false := decide_eq_false (by omega)
      clear h2
      by_cases h3 : r < 945
      · have HE : Hid (grB r = false) := decide_eq_false (by omega)
        go_enter Try.func55, Try.ntmps55
        go_wp2
        go_ret
        exact ⟨retb HE.out.symm, rfl⟩
      · have g3 : 945 ≤ r := by omega
        clear h3
        by_cases h4 : r ≤ 969
        · have HE : Hid (grB r = true) := decide_eq_true (by omega)
          go_enter Try.func55, Try.ntmps55
          go_wp2
          go_ret
          exact ⟨retb HE.out.symm, rfl⟩
        · have HE : Hid (grB r = false) := decide_eq_false (by omega)
          have g4 : 969 < r := by omega
          have d4 : decide (r ≤ 969) = false := decide_eq_false (by omega)
          clear h4
          go_enter Try.func55, Try.ntmps55
          go_wp2
          go_ret
          exact ⟨retb HE.out.symm, rfl⟩
theorem st_eq (r : Int) : stB r = (laB r || grB r || decide (r = 95)) := by
  unfold stB laB grB
  simp only [withinB]
  rw [Bool.eq_iff_iff]
  simp only [Bool.or_eq_true, Bool.and_eq_true, decide_eq_true_eq, Bool.or_false]
  omega
theorem start_at (r : Int) (w : World) :
    Calls Try.prog 39 #[.int .i32 r] w fun e w' => e = .returned (.bool (stB r)) ∧ w = w' := by
  have hst := st_eq r
  have LA : ∀ c, laB r = c → Hid (∀ w, Calls Try.prog 54 #[.int .i32 r] w fun e w' => e = .returned (.bool c) ∧ w = w') := fun c h w => by rw [← h]; exact la_at r w
  have GR : ∀ c, grB r = c → Hid (∀ w, Calls Try.prog 55 #[.int .i32 r] w fun e w' => e = .returned (.bool c) ∧ w = w') := fun c h w => by rw [← h]; exact gr_at r w
  cases hl : laB r with
  | true =>
    have L0 := LA _ hl
    have HE : Hid (stB r = true) := by show _ = _; rw [hst, hl]; rfl
    clear LA GR hl hst
    go_enter Try.func39, Try.ntmps39
    go_wp2_with (go_at_call 54; refine (L0.out _).mono ?_; rintro e w1 ⟨rfl, rfl⟩)
    go_ret
    exact ⟨retb HE.out.symm, rfl⟩
  | false =>
    have L0 := LA _ hl
    cases hg : grB r with
    | true =>
      have G0 := GR _ hg
      have HE : Hid (stB r = true) := by show _ = _; rw [hst, hl, hg]; rfl
      clear LA GR hl hst hg
      go_enter Try.func39, Try.ntmps39
      go_wp2_with (first
        | (go_at_call 54; refine (L0.out _).mono ?_; rintro e w1 ⟨rfl, rfl⟩)
        | (go_at_call 55; refine (G0.out _).mono ?_; rintro e w1 ⟨rfl, rfl⟩))
      go_ret
      exact ⟨retb HE.out.symm, rfl⟩
    | false =>
      have G0 := GR _ hg
      by_cases h95 : r = 95
      · have HE : Hid (stB r = true) := by show _ = _; rw [hst, hl, hg, decide_eq_true h95]; rfl
        have g95 : (r == 95) = true := by simpa using h95
        clear LA GR hl hst hg h95
        go_enter Try.func39, Try.ntmps39
        go_wp2_with (first
          | (go_at_call 54; refine (L0.out _).mono ?_; rintro e w1 ⟨rfl, rfl⟩)
          | (go_at_call 55; refine (G0.out _).mono ?_; rintro e w1 ⟨rfl, rfl⟩))
        go_ret
        exact ⟨retb HE.out.symm, rfl⟩
      · have HE : Hid (stB r = false) := by show _ = _; rw [hst, hl, hg, decide_eq_false h95]; rfl
        have g95 : (r == 95) = false := by simpa using h95
        clear LA GR hl hst hg h95
        go_enter Try.func39, Try.ntmps39
        go_wp2_with (first
          | (go_at_call 54; refine (L0.out _).mono ?_; rintro e w1 ⟨rfl, rfl⟩)
          | (go_at_call 55; refine (G0.out _).mono ?_; rintro e w1 ⟨rfl, rfl⟩))
        go_ret
        exact ⟨retb HE.out.symm, rfl⟩
theorem re_eq (r : Int) : reB r = (stB r || decide ((48 ≤ r ∧ r ≤ 57) ∨ r = 8242 ∨ (8320 ≤ r ∧ r ≤ 8329))) := by
  unfold reB
  simp only [withinB]
  congr 1
  rw [Bool.eq_iff_iff]
  simp only [Bool.or_eq_true, Bool.and_eq_true, decide_eq_true_eq, Bool.or_false]
  omega
set_option maxHeartbeats 1000000 in
theorem rest_at (r : Int) (w : World) :
    Calls Try.prog 38 #[.int .i32 r] w fun e w' => e = .returned (.bool (reB r)) ∧ w = w' := by
  have hre := re_eq r
  have ST : ∀ c, stB r = c → Hid (∀ w, Calls Try.prog 39 #[.int .i32 r] w fun e w' => e = .returned (.bool c) ∧ w = w') := fun c h w => by rw [← h]; exact start_at r w
  cases hs : stB r with
  | true =>
    have S0 := ST _ hs
    have HE : Hid (reB r = true) := by show _ = _; rw [hre, hs]; rfl
    clear ST hs hre
    go_enter Try.func38, Try.ntmps38
    go_wp2_with (go_at_call 39; refine (S0.out _).mono ?_; rintro e w1 ⟨rfl, rfl⟩)
    go_ret
    exact ⟨retb HE.out.symm, rfl⟩
  | false =>
    have S0 := ST _ hs
    rw [hs, Bool.false_or] at hre
    have HR : Hid (reB r = decide ((48 ≤ r ∧ r ≤ 57) ∨ r = 8242 ∨ (8320 ≤ r ∧ r ≤ 8329))) := hre
    clear ST hs hre
    by_cases h1 : r < 48
    · have HE : Hid (reB r = false) := HR.out.trans (decide_eq_false (by omega))
      have g1 : (r == 8242) = false := by simp; omega
      have g2 : r < 8320 := by omega
      go_enter Try.func38, Try.ntmps38
      go_wp2_with (go_at_call 39; refine (S0.out _).mono ?_; rintro e w1 ⟨rfl, rfl⟩)
      go_ret
      exact ⟨retb HE.out.symm, rfl⟩
    · have g1 : 48 ≤ r := by omega
      clear h1
      by_cases h2 : r ≤ 57
      · have HE : Hid (reB r = true) := HR.out.trans (decide_eq_true (by omega))
        go_enter Try.func38, Try.ntmps38
        go_wp2_with (go_at_call 39; refine (S0.out _).mono ?_; rintro e w1 ⟨rfl, rfl⟩)
        go_ret
        exact ⟨retb HE.out.symm, rfl⟩
      · have g2 : 57 < r := by omega
        have d2 : decide (r ≤ 57) = false := decide_eq_false (by omega)
        clear h2
        by_cases h3 : r = 8242
        · have HE : Hid (reB r = true) := HR.out.trans (decide_eq_true (by omega))
          have g3 : (r == 8242) = true := by simpa using h3
          clear h3
          go_enter Try.func38, Try.ntmps38
          go_wp2_with (go_at_call 39; refine (S0.out _).mono ?_; rintro e w1 ⟨rfl, rfl⟩)
          go_ret
          exact ⟨retb HE.out.symm, rfl⟩
        · have g3 : (r == 8242) = false := by simpa using h3
          by_cases h4 : r < 8320
          · have HE : Hid (reB r = false) := HR.out.trans (decide_eq_false (by omega))
            clear h3
            go_enter Try.func38, Try.ntmps38
            go_wp2_with (go_at_call 39; refine (S0.out _).mono ?_; rintro e w1 ⟨rfl, rfl⟩)
            go_ret
            exact ⟨retb HE.out.symm, rfl⟩
          · have g4 : 8320 ≤ r := by omega
            clear h4
            by_cases h5 : r ≤ 8329
            · have HE : Hid (reB r = true) := HR.out.trans (decide_eq_true (by omega))
              clear h3
              go_enter Try.func38, Try.ntmps38
              go_wp2_with (go_at_call 39; refine (S0.out _).mono ?_; rintro e w1 ⟨rfl, rfl⟩)
              go_ret
              exact ⟨retb HE.out.symm, rfl⟩
            · have HE : Hid (reB r = false) := HR.out.trans (decide_eq_false (by omega))
              have g5 : 8329 < r := by omega
              have d5 : decide (r ≤ 8329) = false := decide_eq_false (by omega)
              clear h3 h5
              go_enter Try.func38, Try.ntmps38
              go_wp2_with (go_at_call 39; refine (S0.out _).mono ?_; rintro e w1 ⟨rfl, rfl⟩)
              go_ret
              exact ⟨retb HE.out.symm, rfl⟩
theorem pl_none (r : Int) (h : ∀ m ∈ marks, m ≠ r) : plB r = emp := by
  unfold plB
  have key : ∀ (ms : List Int) (xs : List ByteArray), (∀ m ∈ ms, m ≠ r) → look r ms xs = emp := by
    intro ms
    induction ms with
    | nil => intro xs _; rfl
    | cons m ms ih =>
      intro xs h
      cases xs with
      | nil => rfl
      | cons x xs =>
        rw [look, if_neg (h m (List.mem_cons_self ..))]
        exact ih xs (fun y hy => h y (List.mem_cons_of_mem _ hy))
  exact key _ _ h
abbrev wordsL : List (List UInt8) := [[97, 110, 100], [111, 114], [110, 111, 116], [101, 120], [97, 108, 108], [109, 111, 100], [116, 114, 117, 101], [102, 97, 108, 115, 101]]
theorem words_eq : words.map ByteArray.toList = wordsL := by decide +kernel
theorem rs_eq (s : ByteArray) : rsB s = wordsL.any (fun x => s.toList == x) := by
  unfold rsB
  rw [← words_eq]
  have key : ∀ l : List ByteArray, anyS s l = (l.map ByteArray.toList).any (fun x => s.toList == x) := by
    intro l
    induction l with
    | nil => rfl
    | cons x l ih => rw [anyS, List.map_cons, List.any_cons, ih]; congr 1; rw [Bool.eq_iff_iff, beq_iff_eq, beq_iff_eq]; exact eq_comm
  exact key _
set_option maxHeartbeats 1000000 in
theorem reserved_at (s : ByteArray) (w : World) :
    Calls Try.prog 40 #[.string s] w fun e w' => e = .returned (.bool (rsB s)) ∧ w = w' := by
  have hr := rs_eq s
  simp only [wordsL, List.any_cons, List.any_nil, Bool.or_false] at hr
  have HR : Hid _ := hr
  clear hr
  cases e1 : (s.toList == ([97, 110, 100] : List UInt8)) with
  | true =>
    have HE : Hid (rsB s = true) := by show _ = _; rw [HR.out, e1]; rfl
    clear HR
    go_enter Try.func40, Try.ntmps40
    go_wp2
    go_ret
    exact ⟨retb HE.out.symm, rfl⟩
  | false =>
    cases e2 : (s.toList == ([111, 114] : List UInt8)) with
    | true =>
      have HE : Hid (rsB s = true) := by show _ = _; rw [HR.out, e1, e2]; rfl
      clear HR
      go_enter Try.func40, Try.ntmps40
      go_wp2
      go_ret
      exact ⟨retb HE.out.symm, rfl⟩
    | false =>
      cases e3 : (s.toList == ([110, 111, 116] : List UInt8)) with
      | true =>
        have HE : Hid (rsB s = true) := by show _ = _; rw [HR.out, e1, e2, e3]; rfl
        clear HR
        go_enter Try.func40, Try.ntmps40
        go_wp2
        go_ret
        exact ⟨retb HE.out.symm, rfl⟩
      | false =>
        cases e4 : (s.toList == ([101, 120] : List UInt8)) with
        | true =>
          have HE : Hid (rsB s = true) := by show _ = _; rw [HR.out, e1, e2, e3, e4]; rfl
          clear HR
          go_enter Try.func40, Try.ntmps40
          go_wp2
          go_ret
          exact ⟨retb HE.out.symm, rfl⟩
        | false =>
          cases e5 : (s.toList == ([97, 108, 108] : List UInt8)) with
          | true =>
            have HE : Hid (rsB s = true) := by show _ = _; rw [HR.out, e1, e2, e3, e4, e5]; rfl
            clear HR
            go_enter Try.func40, Try.ntmps40
            go_wp2
            go_ret
            exact ⟨retb HE.out.symm, rfl⟩
          | false =>
            cases e6 : (s.toList == ([109, 111, 100] : List UInt8)) with
            | true =>
              have HE : Hid (rsB s = true) := by show _ = _; rw [HR.out, e1, e2, e3, e4, e5, e6]; rfl
              clear HR
              go_enter Try.func40, Try.ntmps40
              go_wp2
              go_ret
              exact ⟨retb HE.out.symm, rfl⟩
            | false =>
              cases e7 : (s.toList == ([116, 114, 117, 101] : List UInt8)) with
              | true =>
                have HE : Hid (rsB s = true) := by show _ = _; rw [HR.out, e1, e2, e3, e4, e5, e6, e7]; rfl
                clear HR
                go_enter Try.func40, Try.ntmps40
                go_wp2
                go_ret
                exact ⟨retb HE.out.symm, rfl⟩
              | false =>
                cases e8 : (s.toList == ([102, 97, 108, 115, 101] : List UInt8)) with
                | true =>
                  have HE : Hid (rsB s = true) := by show _ = _; rw [HR.out, e1, e2, e3, e4, e5, e6, e7, e8]; rfl
                  clear HR
                  go_enter Try.func40, Try.ntmps40
                  go_wp2
                  go_ret
                  exact ⟨retb HE.out.symm, rfl⟩
                | false =>
                  have HE : Hid (rsB s = false) := by show _ = _; rw [HR.out, e1, e2, e3, e4, e5, e6, e7, e8]; rfl
                  clear HR
                  go_enter Try.func40, Try.ntmps40
                  go_wp2
                  go_ret
                  exact ⟨retb HE.out.symm, rfl⟩
end Go.Proofs.Ytiihabecncnbcaa.Gl
