/- The program's characters: isLatin, isGreek, Start, Rest, Blank, Plain, Reserved. -/
import Derived.Test.YtabfhdmcljdjhaaGreatDoorGlB
import Derived.RowKit
namespace Go.Proofs.YtabfhdmcljdjhaaGreatDoor.Gl
open Go.RowKit
set_option linter.unusedVariables false

def laB (r : Int) : Bool := decide ((65 ≤ r ∧ r ≤ 90) ∨ (97 ≤ r ∧ r ≤ 122))
def grB (r : Int) : Bool := decide ((913 ≤ r ∧ r ≤ 937 ∧ r ≠ 930) ∨ (945 ≤ r ∧ r ≤ 969))
theorem la_at (r : Int) (w : World) :
    Calls Tryz.prog 96 #[.int .i32 r] w fun e w' => e = .returned (.bool (laB r)) ∧ w = w' := by
  by_cases h1 : r < 65
  · have HE : Hid (laB r = false) := decide_eq_false (by omega)
    have h3 : r < 97 := by omega
    go_enter Tryz.func96, Tryz.ntmps96
    go_wp2
    go_ret
    exact ⟨retb HE.out.symm, rfl⟩
  · have g1 : 65 ≤ r := by omega
    clear h1
    by_cases h2 : r ≤ 90
    · have HE : Hid (laB r = true) := decide_eq_true (by omega)
      go_enter Tryz.func96, Tryz.ntmps96
      go_wp2
      go_ret
      exact ⟨retb HE.out.symm, rfl⟩
    · have g2 : 90 < r := by omega
      have d2 : decide (r ≤ 90) = false := decide_eq_false (by omega)
      clear h2
      by_cases h3 : r < 97
      · have HE : Hid (laB r = false) := decide_eq_false (by omega)
        go_enter Tryz.func96, Tryz.ntmps96
        go_wp2
        go_ret
        exact ⟨retb HE.out.symm, rfl⟩
      · have g3 : 97 ≤ r := by omega
        clear h3
        by_cases h4 : r ≤ 122
        · have HE : Hid (laB r = true) := decide_eq_true (by omega)
          go_enter Tryz.func96, Tryz.ntmps96
          go_wp2
          go_ret
          exact ⟨retb HE.out.symm, rfl⟩
        · have HE : Hid (laB r = false) := decide_eq_false (by omega)
          have g4 : 122 < r := by omega
          have d4 : decide (r ≤ 122) = false := decide_eq_false (by omega)
          clear h4
          go_enter Tryz.func96, Tryz.ntmps96
          go_wp2
          go_ret
          exact ⟨retb HE.out.symm, rfl⟩
theorem gr_at (r : Int) (w : World) :
    Calls Tryz.prog 97 #[.int .i32 r] w fun e w' => e = .returned (.bool (grB r)) ∧ w = w' := by
  by_cases h1 : r < 913
  · have HE : Hid (grB r = false) := decide_eq_false (by omega)
    have h3 : r < 945 := by omega
    go_enter Tryz.func97, Tryz.ntmps97
    go_wp2
    go_ret
    exact ⟨retb HE.out.symm, rfl⟩
  · have g1 : 913 ≤ r := by omega
    clear h1
    by_cases h2 : r ≤ 937
    · by_cases h5 : r = 930
      · have HE : Hid (grB r = false) := decide_eq_false (by omega)
        subst h5
        go_enter Tryz.func97, Tryz.ntmps97
        go_wp2
        go_ret
        exact ⟨retb HE.out.symm, rfl⟩
      · have HE : Hid (grB r = true) := decide_eq_true (by omega)
        have g5 : (r != 930) = true := by simpa using h5
        clear h5
        go_enter Tryz.func97, Tryz.ntmps97
        go_wp2
        go_ret
        exact ⟨retb HE.out.symm, rfl⟩
    · have g2 : 937 < r := by omega
      have d2 : decide (r ≤ 937) = false := decide_eq_false (by omega)
      clear h2
      by_cases h3 : r < 945
      · have HE : Hid (grB r = false) := decide_eq_false (by omega)
        go_enter Tryz.func97, Tryz.ntmps97
        go_wp2
        go_ret
        exact ⟨retb HE.out.symm, rfl⟩
      · have g3 : 945 ≤ r := by omega
        clear h3
        by_cases h4 : r ≤ 969
        · have HE : Hid (grB r = true) := decide_eq_true (by omega)
          go_enter Tryz.func97, Tryz.ntmps97
          go_wp2
          go_ret
          exact ⟨retb HE.out.symm, rfl⟩
        · have HE : Hid (grB r = false) := decide_eq_false (by omega)
          have g4 : 969 < r := by omega
          have d4 : decide (r ≤ 969) = false := decide_eq_false (by omega)
          clear h4
          go_enter Tryz.func97, Tryz.ntmps97
          go_wp2
          go_ret
          exact ⟨retb HE.out.symm, rfl⟩
theorem st_eq (r : Int) : stB r = (laB r || grB r || decide (r = 95)) := by
  unfold stB laB grB
  simp only [withinB]
  rw [Bool.eq_iff_iff]
  simp only [Bool.or_eq_true, Bool.and_eq_true, decide_eq_true_eq, Bool.or_false]
  omega
theorem start_at (r : Int) (w : World) :
    Calls Tryz.prog 78 #[.int .i32 r] w fun e w' => e = .returned (.bool (stB r)) ∧ w = w' := by
  have hst := st_eq r
  have LA : ∀ c, laB r = c → Hid (∀ w, Calls Tryz.prog 96 #[.int .i32 r] w fun e w' => e = .returned (.bool c) ∧ w = w') := fun c h w => by rw [← h]; exact la_at r w
  have GR : ∀ c, grB r = c → Hid (∀ w, Calls Tryz.prog 97 #[.int .i32 r] w fun e w' => e = .returned (.bool c) ∧ w = w') := fun c h w => by rw [← h]; exact gr_at r w
  cases hl : laB r with
  | true =>
    have L0 := LA _ hl
    have HE : Hid (stB r = true) := by show _ = _; rw [hst, hl]; rfl
    clear LA GR hl hst
    go_enter Tryz.func78, Tryz.ntmps78
    go_wp2_with (go_at_call 96; refine (L0.out _).mono ?_; rintro e w1 ⟨rfl, rfl⟩)
    go_ret
    exact ⟨retb HE.out.symm, rfl⟩
  | false =>
    have L0 := LA _ hl
    cases hg : grB r with
    | true =>
      have G0 := GR _ hg
      have HE : Hid (stB r = true) := by show _ = _; rw [hst, hl, hg]; rfl
      clear LA GR hl hst hg
      go_enter Tryz.func78, Tryz.ntmps78
      go_wp2_with (first
        | (go_at_call 96; refine (L0.out _).mono ?_; rintro e w1 ⟨rfl, rfl⟩)
        | (go_at_call 97; refine (G0.out _).mono ?_; rintro e w1 ⟨rfl, rfl⟩))
      go_ret
      exact ⟨retb HE.out.symm, rfl⟩
    | false =>
      have G0 := GR _ hg
      by_cases h95 : r = 95
      · have HE : Hid (stB r = true) := by show _ = _; rw [hst, hl, hg, decide_eq_true h95]; rfl
        have g95 : (r == 95) = true := by simpa using h95
        clear LA GR hl hst hg h95
        go_enter Tryz.func78, Tryz.ntmps78
        go_wp2_with (first
          | (go_at_call 96; refine (L0.out _).mono ?_; rintro e w1 ⟨rfl, rfl⟩)
          | (go_at_call 97; refine (G0.out _).mono ?_; rintro e w1 ⟨rfl, rfl⟩))
        go_ret
        exact ⟨retb HE.out.symm, rfl⟩
      · have HE : Hid (stB r = false) := by show _ = _; rw [hst, hl, hg, decide_eq_false h95]; rfl
        have g95 : (r == 95) = false := by simpa using h95
        clear LA GR hl hst hg h95
        go_enter Tryz.func78, Tryz.ntmps78
        go_wp2_with (first
          | (go_at_call 96; refine (L0.out _).mono ?_; rintro e w1 ⟨rfl, rfl⟩)
          | (go_at_call 97; refine (G0.out _).mono ?_; rintro e w1 ⟨rfl, rfl⟩))
        go_ret
        exact ⟨retb HE.out.symm, rfl⟩
theorem re_eq (r : Int) : reB r = (stB r || decide ((48 ≤ r ∧ r ≤ 57) ∨ r = 8242 ∨ (8320 ≤ r ∧ r ≤ 8329))) := by
  unfold reB
  simp only [withinB]
  congr 1
  rw [Bool.eq_iff_iff]
  simp only [Bool.or_eq_true, Bool.and_eq_true, decide_eq_true_eq, Bool.or_false]
  omega
set_option maxHeartbeats 1000000 in
theorem rest_at (r : Int) (w : World) :
    Calls Tryz.prog 80 #[.int .i32 r] w fun e w' => e = .returned (.bool (reB r)) ∧ w = w' := by
  have hre := re_eq r
  have ST : ∀ c, stB r = c → Hid (∀ w, Calls Tryz.prog 78 #[.int .i32 r] w fun e w' => e = .returned (.bool c) ∧ w = w') := fun c h w => by rw [← h]; exact start_at r w
  cases hs : stB r with
  | true =>
    have S0 := ST _ hs
    have HE : Hid (reB r = true) := by show _ = _; rw [hre, hs]; rfl
    clear ST hs hre
    go_enter Tryz.func80, Tryz.ntmps80
    go_wp2_with (go_at_call 78; refine (S0.out _).mono ?_; rintro e w1 ⟨rfl, rfl⟩)
    go_ret
    exact ⟨retb HE.out.symm, rfl⟩
  | false =>
    have S0 := ST _ hs
    rw [hs, Bool.false_or] at hre
    have HR : Hid (reB r = decide ((48 ≤ r ∧ r ≤ 57) ∨ r = 8242 ∨ (8320 ≤ r ∧ r ≤ 8329))) := hre
    clear ST hs hre
    by_cases h1 : r < 48
    · have HE : Hid (reB r = false) := HR.out.trans (decide_eq_false (by omega))
      have g1 : (r == 8242) = false := by simp; omega
      have g2 : r < 8320 := by omega
      go_enter Tryz.func80, Tryz.ntmps80
      go_wp2_with (go_at_call 78; refine (S0.out _).mono ?_; rintro e w1 ⟨rfl, rfl⟩)
      go_ret
      exact ⟨retb HE.out.symm, rfl⟩
    · have g1 : 48 ≤ r := by omega
      clear h1
      by_cases h2 : r ≤ 57
      · have HE : Hid (reB r = true) := HR.out.trans (decide_eq_true (by omega))
        go_enter Tryz.func80, Tryz.ntmps80
        go_wp2_with (go_at_call 78; refine (S0.out _).mono ?_; rintro e w1 ⟨rfl, rfl⟩)
        go_ret
        exact ⟨retb HE.out.symm, rfl⟩
      · have g2 : 57 < r := by omega
        have d2 : decide (r ≤ 57) = false := decide_eq_false (by omega)
        clear h2
        by_cases h3 : r = 8242
        · have HE : Hid (reB r = true) := HR.out.trans (decide_eq_true (by omega))
          have g3 : (r == 8242) = true := by simpa using h3
          clear h3
          go_enter Tryz.func80, Tryz.ntmps80
          go_wp2_with (go_at_call 78; refine (S0.out _).mono ?_; rintro e w1 ⟨rfl, rfl⟩)
          go_ret
          exact ⟨retb HE.out.symm, rfl⟩
        · have g3 : (r == 8242) = false := by simpa using h3
          by_cases h4 : r < 8320
          · have HE : Hid (reB r = false) := HR.out.trans (decide_eq_false (by omega))
            clear h3
            go_enter Tryz.func80, Tryz.ntmps80
            go_wp2_with (go_at_call 78; refine (S0.out _).mono ?_; rintro e w1 ⟨rfl, rfl⟩)
            go_ret
            exact ⟨retb HE.out.symm, rfl⟩
          · have g4 : 8320 ≤ r := by omega
            clear h4
            by_cases h5 : r ≤ 8329
            · have HE : Hid (reB r = true) := HR.out.trans (decide_eq_true (by omega))
              clear h3
              go_enter Tryz.func80, Tryz.ntmps80
              go_wp2_with (go_at_call 78; refine (S0.out _).mono ?_; rintro e w1 ⟨rfl, rfl⟩)
              go_ret
              exact ⟨retb HE.out.symm, rfl⟩
            · have HE : Hid (reB r = false) := HR.out.trans (decide_eq_false (by omega))
              have g5 : 8329 < r := by omega
              have d5 : decide (r ≤ 8329) = false := decide_eq_false (by omega)
              clear h3 h5
              go_enter Tryz.func80, Tryz.ntmps80
              go_wp2_with (go_at_call 78; refine (S0.out _).mono ?_; rintro e w1 ⟨rfl, rfl⟩)
              go_ret
              exact ⟨retb HE.out.symm, rfl⟩
theorem blank_at (r : Int) (w : World) :
    Calls Tryz.prog 51 #[.int .i32 r] w fun e w' => e = .returned (.bool (blB r)) ∧ w = w' := by
  by_cases h : r = 32 ∨ r = 9 ∨ r = 10 ∨ r = 13
  · have HE : Hid (blB r = true) := decide_eq_true h
    rcases h with rfl | rfl | rfl | rfl
    all_goals
      go_enter Tryz.func51, Tryz.ntmps51
      go_wp2
      go_ret
      exact ⟨retb HE.out.symm, rfl⟩
  · have HE : Hid (blB r = false) := decide_eq_false h
    have h1 : (r == 32) = false := by simp; omega
    have h2 : (r == 9) = false := by simp; omega
    have h3 : (r == 10) = false := by simp; omega
    have h4 : (r == 13) = false := by simp; omega
    clear h
    go_enter Tryz.func51, Tryz.ntmps51
    go_wp2
    go_ret
    exact ⟨retb HE.out.symm, rfl⟩
theorem pl_none (r : Int) (h : ∀ m ∈ marks, m ≠ r) : plB r = emp := by
  unfold plB
  have key : ∀ (ms : List Int) (xs : List ByteArray), (∀ m ∈ ms, m ≠ r) → look r ms xs = emp := by
    intro ms
    induction ms with
    | nil => intro xs _; rfl
    | cons m ms ih =>
      intro xs h
      cases xs with
      | nil => rfl
      | cons x xs =>
        rw [look, if_neg (h m (List.mem_cons_self ..))]
        exact ih xs (fun y hy => h y (List.mem_cons_of_mem _ hy))
  exact key _ _ h
set_option maxHeartbeats 1000000 in
theorem plain_at (r : Int) (w : World) :
    Calls Tryz.prog 84 #[.int .i32 r] w fun e w' => e = .returned (.string (plB r)) ∧ w = w' := by
  by_cases h : ∃ m ∈ marks, m = r
  · obtain ⟨m, hm, rfl⟩ := h
    simp only [marks, List.mem_cons, List.not_mem_nil, or_false] at hm
    rcases hm with rfl | rfl | rfl | rfl | rfl | rfl | rfl | rfl | rfl | rfl | rfl | rfl | rfl
    all_goals
      go_enter Tryz.func84, Tryz.ntmps84
      go_wp2
      go_ret
      exact ⟨rets (by rfl), rfl⟩
  · have HE : Hid (plB r = emp) := pl_none r (fun m hm e => h ⟨m, hm, e⟩)
    have hn : ∀ m ∈ marks, (r == m) = false := fun m hm => by
      cases hq : (r == m) with
      | false => rfl
      | true => exact absurd ⟨m, hm, (beq_iff_eq.1 hq).symm⟩ h
    have e1 := hn 8804 (by decide)
    have e2 := hn 8805 (by decide)
    have e3 := hn 8800 (by decide)
    have e4 := hn 8801 (by decide)
    have e5 := hn 8722 (by decide)
    have e6 := hn 183 (by decide)
    have e7 := hn 8594 (by decide)
    have e8 := hn 8596 (by decide)
    have e9 := hn 8743 (by decide)
    have e10 := hn 8744 (by decide)
    have e11 := hn 172 (by decide)
    have e12 := hn 8707 (by decide)
    have e13 := hn 8704 (by decide)
    clear h hn
    go_enter Tryz.func84, Tryz.ntmps84
    go_wp2
    go_ret
    exact ⟨rets HE.out.symm, rfl⟩
abbrev wordsL : List (List UInt8) := [[97, 110, 100], [111, 114], [110, 111, 116], [101, 120], [97, 108, 108], [109, 111, 100], [116, 114, 117, 101], [102, 97, 108, 115, 101]]
theorem words_eq : words.map ByteArray.toList = wordsL := by decide +kernel
theorem rs_eq (s : ByteArray) : rsB s = wordsL.any (fun x => s.toList == x) := by
  unfold rsB
  rw [← words_eq]
  have key : ∀ l : List ByteArray, anyS s l = (l.map ByteArray.toList).any (fun x => s.toList == x) := by
    intro l
    induction l with
    | nil => rfl
    | cons x l ih => rw [anyS, List.map_cons, List.any_cons, ih]; congr 1; rw [Bool.eq_iff_iff, beq_iff_eq, beq_iff_eq]; exact eq_comm
  exact key _
set_option maxHeartbeats 1000000 in
theorem reserved_at (s : ByteArray) (w : World) :
    Calls Tryz.prog 99 #[.string s] w fun e w' => e = .returned (.bool (rsB s)) ∧ w = w' := by
  have hr := rs_eq s
  simp only [wordsL, List.any_cons, List.any_nil, Bool.or_false] at hr
  have HR : Hid _ := hr
  clear hr
  cases e1 : (s.toList == ([97, 110, 100] : List UInt8)) with
  | true =>
    have HE : Hid (rsB s = true) := by show _ = _; rw [HR.out, e1]; rfl
    clear HR
    go_enter Tryz.func99, Tryz.ntmps99
    go_wp2
    go_ret
    exact ⟨retb HE.out.symm, rfl⟩
  | false =>
    cases e2 : (s.toList == ([111, 114] : List UInt8)) with
    | true =>
      have HE : Hid (rsB s = true) := by show _ = _; rw [HR.out, e1, e2]; rfl
      clear HR
      go_enter Tryz.func99, Tryz.ntmps99
      go_wp2
      go_ret
      exact ⟨retb HE.out.symm, rfl⟩
    | false =>
      cases e3 : (s.toList == ([110, 111, 116] : List UInt8)) with
      | true =>
        have HE : Hid (rsB s = true) := by show _ = _; rw [HR.out, e1, e2, e3]; rfl
        clear HR
        go_enter Tryz.func99, Tryz.ntmps99
        go_wp2
        go_ret
        exact ⟨retb HE.out.symm, rfl⟩
      | false =>
        cases e4 : (s.toList == ([101, 120] : List UInt8)) with
        | true =>
          have HE : Hid (rsB s = true) := by show _ = _; rw [HR.out, e1, e2, e3, e4]; rfl
          clear HR
          go_enter Tryz.func99, Tryz.ntmps99
          go_wp2
          go_ret
          exact ⟨retb HE.out.symm, rfl⟩
        | false =>
          cases e5 : (s.toList == ([97, 108, 108] : List UInt8)) with
          | true =>
            have HE : Hid (rsB s = true) := by show _ = _; rw [HR.out, e1, e2, e3, e4, e5]; rfl
            clear HR
            go_enter Tryz.func99, Tryz.ntmps99
            go_wp2
            go_ret
            exact ⟨retb HE.out.symm, rfl⟩
          | false =>
            cases e6 : (s.toList == ([109, 111, 100] : List UInt8)) with
            | true =>
              have HE : Hid (rsB s = true) := by show _ = _; rw [HR.out, e1, e2, e3, e4, e5, e6]; rfl
              clear HR
              go_enter Tryz.func99, Tryz.ntmps99
              go_wp2
              go_ret
              exact ⟨retb HE.out.symm, rfl⟩
            | false =>
              cases e7 : (s.toList == ([116, 114, 117, 101] : List UInt8)) with
              | true =>
                have HE : Hid (rsB s = true) := by show _ = _; rw [HR.out, e1, e2, e3, e4, e5, e6, e7]; rfl
                clear HR
                go_enter Tryz.func99, Tryz.ntmps99
                go_wp2
                go_ret
                exact ⟨retb HE.out.symm, rfl⟩
              | false =>
                cases e8 : (s.toList == ([102, 97, 108, 115, 101] : List UInt8)) with
                | true =>
                  have HE : Hid (rsB s = true) := by show _ = _; rw [HR.out, e1, e2, e3, e4, e5, e6, e7, e8]; rfl
                  clear HR
                  go_enter Tryz.func99, Tryz.ntmps99
                  go_wp2
                  go_ret
                  exact ⟨retb HE.out.symm, rfl⟩
                | false =>
                  have HE : Hid (rsB s = false) := by show _ = _; rw [HR.out, e1, e2, e3, e4, e5, e6, e7, e8]; rfl
                  clear HR
                  go_enter Tryz.func99, Tryz.ntmps99
                  go_wp2
                  go_ret
                  exact ⟨retb HE.out.symm, rfl⟩
end Go.Proofs.YtabfhdmcljdjhaaGreatDoor.Gl
/- Characters of a text: the model's decoding by bytes: plain mathematics. -/
namespace Go.Proofs.YtabfhdmcljdjhaaGreatDoor.Gl

/-- byte k of s; 0 behind its end -/
def bt (s : ByteArray) (k : Nat) : Nat := (s.get! k).toNat
theorem bt_of (s : ByteArray) (k : Nat) (h : k < s.size) : bt s k = s[k].toNat := by
  unfold bt
  cases s with
  | mk d =>
    have hd : k < d.size := h
    simp only [ByteArray.get!, getElem!_pos d k hd]
    rfl
theorem bt_lt (s : ByteArray) (k : Nat) : bt s k < 256 := (s.get! k).toNat_lt
/-- what is read at byte i: the character, its bytes, and whether it is one -/
def rdS (s : ByteArray) (i : Nat) : Nat × Nat × Bool := ((Utf8.decode s i).1, (Utf8.decode s i).2, !((Utf8.decode s i).1 == 65533 && (Utf8.decode s i).2 == 1))
theorem rd_of {s : ByteArray} {i c n : Nat} (h : Utf8.decode s i = (c, n)) : rdS s i = (c, n, !(c == 65533 && n == 1)) := by unfold rdS; rw [h]
theorem rd_err {s : ByteArray} {i : Nat} (h : Utf8.decode s i = (65533, 1)) : rdS s i = (65533, 1, false) := rd_of h
theorem rd_one (s : ByteArray) (i : Nat) (h : bt s i < 128) : rdS s i = (bt s i, 1, true) := by
  rw [rd_of (c := bt s i) (n := 1) (by unfold Utf8.decode; simp only [Nat.add_zero]; unfold bt at h ⊢; rw [if_pos h])]
  have : (bt s i == 65533) = false := by simp; omega
  rw [this]; rfl
theorem dec_bad0 (s : ByteArray) (i : Nat) (h : (128 ≤ bt s i ∧ bt s i < 194) ∨ 245 ≤ bt s i) : Utf8.decode s i = (65533, 1) := by
  have hb := bt_lt s i
  have hb1 := bt_lt s (i + 1)
  have hb2 := bt_lt s (i + 2)
  have hb3 := bt_lt s (i + 3)
  unfold Utf8.decode
  simp only [Nat.add_zero, Utf8.runeError]
  unfold bt at *
  rw [if_neg (by omega)]
  split
  · rename_i hc
    simp only [Bool.and_eq_true, beq_iff_eq, decide_eq_true_eq] at hc
    rw [if_neg (by omega)]
  · split
    · rename_i hc
      simp only [Bool.and_eq_true, beq_iff_eq, decide_eq_true_eq] at hc
      omega
    · split
      · rename_i hc
        simp only [Bool.and_eq_true, beq_iff_eq, decide_eq_true_eq] at hc
        rw [if_neg (by simp only [Bool.and_eq_true, decide_eq_true_eq, Utf8.valid, Bool.or_eq_true, ge_iff_le]; omega)]
      · rfl
theorem rd_bad0 (s : ByteArray) (i : Nat) (h : (128 ≤ bt s i ∧ bt s i < 194) ∨ 245 ≤ bt s i) : rdS s i = (65533, 1, false) :=
  rd_err (dec_bad0 s i h)
/-- two bytes -/
theorem dec_two (s : ByteArray) (i : Nat) (h : 194 ≤ bt s i ∧ bt s i < 224) : Utf8.decode s i = if 1 < s.size - i ∧ 128 ≤ bt s (i + 1) ∧ bt s (i + 1) < 192 then ((bt s i - 192) * 64 + (bt s (i + 1) - 128), 2) else (65533, 1) := by
  have hb := bt_lt s i
  have hb1 := bt_lt s (i + 1)
  have hb2 := bt_lt s (i + 2)
  have hb3 := bt_lt s (i + 3)
  unfold Utf8.decode
  simp only [Nat.add_zero, Utf8.runeError]
  unfold bt at *
  rw [if_neg (by omega)]
  by_cases hc : 1 < s.size - i ∧ 128 ≤ (s.get! (i + 1)).toNat ∧ (s.get! (i + 1)).toNat < 192
  · rw [if_pos (by simp only [Bool.and_eq_true, beq_iff_eq, decide_eq_true_eq]; omega), if_pos (by omega), if_pos hc]
    exact congrArg (fun c : Nat => (c, 2)) (by omega)
  · rw [if_neg (by simp only [Bool.and_eq_true, beq_iff_eq, decide_eq_true_eq]; omega), if_neg (by simp only [Bool.and_eq_true, beq_iff_eq, decide_eq_true_eq]; omega), if_neg (by simp only [Bool.and_eq_true, beq_iff_eq, decide_eq_true_eq]; omega), if_neg hc]
/-- three bytes -/
theorem dec_three (s : ByteArray) (i c : Nat) (h : 224 ≤ bt s i ∧ bt s i < 240) (hc0 : c = ((bt s i - 224) * 64 + (bt s (i + 1) - 128)) * 64 + (bt s (i + 2) - 128)) : Utf8.decode s i = if (2 < s.size - i ∧ (128 ≤ bt s (i + 1) ∧ bt s (i + 1) < 192) ∧ 128 ≤ bt s (i + 2) ∧ bt s (i + 2) < 192) ∧ (2048 ≤ c ∧ ¬ (55296 ≤ c ∧ c ≤ 57343)) then (c, 3) else (65533, 1) := by
  have hb := bt_lt s i
  have hb1 := bt_lt s (i + 1)
  have hb2 := bt_lt s (i + 2)
  have hb3 := bt_lt s (i + 3)
  unfold Utf8.decode
  simp only [Nat.add_zero, Utf8.runeError]
  unfold bt at *
  rw [if_neg (by omega), if_neg (by simp only [Bool.and_eq_true, beq_iff_eq, decide_eq_true_eq]; omega)]
  by_cases hc : 2 < s.size - i ∧ (128 ≤ (s.get! (i + 1)).toNat ∧ (s.get! (i + 1)).toNat < 192) ∧ 128 ≤ (s.get! (i + 2)).toNat ∧ (s.get! (i + 2)).toNat < 192
  · have e2 : (s.get! i).toNat % 16 * 4096 + (s.get! (i + 1)).toNat % 64 * 64 + (s.get! (i + 2)).toNat % 64 = c := by omega
    rw [if_pos (by simp only [Bool.and_eq_true, beq_iff_eq, decide_eq_true_eq]; omega)]
    by_cases hv : 2048 ≤ c ∧ ¬ (55296 ≤ c ∧ c ≤ 57343)
    · rw [if_pos (by simp only [Bool.and_eq_true, decide_eq_true_eq, Utf8.valid, Bool.or_eq_true, ge_iff_le]; omega), if_pos ⟨hc, hv⟩]
      exact congrArg (fun c : Nat => (c, 3)) e2
    · rw [if_neg (by simp only [Bool.and_eq_true, decide_eq_true_eq, Utf8.valid, Bool.or_eq_true, ge_iff_le]; omega), if_neg (fun h => hv h.2)]
  · rw [if_neg (by simp only [Bool.and_eq_true, beq_iff_eq, decide_eq_true_eq]; omega), if_neg (by simp only [Bool.and_eq_true, beq_iff_eq, decide_eq_true_eq]; omega), if_neg (fun h => hc h.1)]
/-- four bytes -/
theorem dec_four (s : ByteArray) (i c : Nat) (h : 240 ≤ bt s i ∧ bt s i < 245) (hc0 : c = (((bt s i - 240) * 64 + (bt s (i + 1) - 128)) * 64 + (bt s (i + 2) - 128)) * 64 + (bt s (i + 3) - 128)) : Utf8.decode s i = if (3 < s.size - i ∧ (128 ≤ bt s (i + 1) ∧ bt s (i + 1) < 192) ∧ (128 ≤ bt s (i + 2) ∧ bt s (i + 2) < 192) ∧ 128 ≤ bt s (i + 3) ∧ bt s (i + 3) < 192) ∧ (65536 ≤ c ∧ c ≤ 1114111) then (c, 4) else (65533, 1) := by
  have hb := bt_lt s i
  have hb1 := bt_lt s (i + 1)
  have hb2 := bt_lt s (i + 2)
  have hb3 := bt_lt s (i + 3)
  unfold Utf8.decode
  simp only [Nat.add_zero, Utf8.runeError]
  unfold bt at *
  rw [if_neg (by omega), if_neg (by simp only [Bool.and_eq_true, beq_iff_eq, decide_eq_true_eq]; omega), if_neg (by simp only [Bool.and_eq_true, beq_iff_eq, decide_eq_true_eq]; omega)]
  by_cases hc : 3 < s.size - i ∧ (128 ≤ (s.get! (i + 1)).toNat ∧ (s.get! (i + 1)).toNat < 192) ∧ (128 ≤ (s.get! (i + 2)).toNat ∧ (s.get! (i + 2)).toNat < 192) ∧ 128 ≤ (s.get! (i + 3)).toNat ∧ (s.get! (i + 3)).toNat < 192
  · have e2 : (s.get! i).toNat % 8 * 262144 + (s.get! (i + 1)).toNat % 64 * 4096 + (s.get! (i + 2)).toNat % 64 * 64 + (s.get! (i + 3)).toNat % 64 = c := by omega
    rw [if_pos (by simp only [Bool.and_eq_true, beq_iff_eq, decide_eq_true_eq]; omega)]
    by_cases hv : 65536 ≤ c ∧ c ≤ 1114111
    · rw [if_pos (by simp only [Bool.and_eq_true, decide_eq_true_eq, Utf8.valid, Bool.or_eq_true, ge_iff_le]; omega), if_pos ⟨hc, hv⟩]
      exact congrArg (fun c : Nat => (c, 4)) e2
    · rw [if_neg (by simp only [Bool.and_eq_true, decide_eq_true_eq, Utf8.valid, Bool.or_eq_true, ge_iff_le]; omega), if_neg (fun h => hv h.2)]
  · rw [if_neg (by simp only [Bool.and_eq_true, beq_iff_eq, decide_eq_true_eq]; omega), if_neg (fun h => hc h.1)]
/-- how many bytes the character at i should have, by its first one; the number so far behind j further bytes -/
def accB (s : ByteArray) (i x0 : Nat) : Nat → Nat
  | 0 => x0
  | j + 1 => accB s i x0 j * 64 + (bt s (i + (j + 1)) - 128)
theorem acc_zero (s : ByteArray) (i x0 : Nat) : accB s i x0 0 = x0 := rfl
theorem acc_succ (s : ByteArray) (i x0 j : Nat) : accB s i x0 (j + 1) = accB s i x0 j * 64 + (bt s (i + (j + 1)) - 128) := rfl
theorem rd_two (s : ByteArray) (i : Nat) (h : 194 ≤ bt s i ∧ bt s i < 224) : rdS s i = if 1 < s.size - i ∧ (∀ k, k < 1 → 128 ≤ bt s (i + (k + 1)) ∧ bt s (i + (k + 1)) < 192) ∧ (128 ≤ accB s i (bt s i - 192) 1 ∧ accB s i (bt s i - 192) 1 ≤ 1114111 ∧ ¬ (55296 ≤ accB s i (bt s i - 192) 1 ∧ accB s i (bt s i - 192) 1 ≤ 57343)) then (accB s i (bt s i - 192) 1, 2, true) else (65533, 1, false) := by
  have hd := dec_two s i h
  have e : accB s i (bt s i - 192) 1 = (bt s i - 192) * 64 + (bt s (i + 1) - 128) := rfl
  by_cases hc : 1 < s.size - i ∧ 128 ≤ bt s (i + 1) ∧ bt s (i + 1) < 192
  · rw [if_pos hc] at hd
    rw [if_pos ⟨hc.1, fun k hk => (by obtain rfl : k = 0 := by omega
                                      exact hc.2), by rw [e]; omega⟩, rd_of hd, e]
    have : ((bt s i - 192) * 64 + (bt s (i + 1) - 128) == 65533) = false := by simp; omega
    rw [this]; rfl
  · rw [if_neg hc] at hd
    rw [if_neg (fun h => hc ⟨h.1, h.2.1 0 (by omega)⟩), rd_err hd]
theorem rd_three (s : ByteArray) (i : Nat) (h : 224 ≤ bt s i ∧ bt s i < 240) : rdS s i = if 2 < s.size - i ∧ (∀ k, k < 2 → 128 ≤ bt s (i + (k + 1)) ∧ bt s (i + (k + 1)) < 192) ∧ (2048 ≤ accB s i (bt s i - 224) 2 ∧ accB s i (bt s i - 224) 2 ≤ 1114111 ∧ ¬ (55296 ≤ accB s i (bt s i - 224) 2 ∧ accB s i (bt s i - 224) 2 ≤ 57343)) then (accB s i (bt s i - 224) 2, 3, true) else (65533, 1, false) := by
  have hd := dec_three s i (accB s i (bt s i - 224) 2) h rfl
  have e : accB s i (bt s i - 224) 2 = ((bt s i - 224) * 64 + (bt s (i + 1) - 128)) * 64 + (bt s (i + 2) - 128) := rfl
  generalize accB s i (bt s i - 224) 2 = c at *
  by_cases hc : (2 < s.size - i ∧ (128 ≤ bt s (i + 1) ∧ bt s (i + 1) < 192) ∧ 128 ≤ bt s (i + 2) ∧ bt s (i + 2) < 192) ∧ (2048 ≤ c ∧ ¬ (55296 ≤ c ∧ c ≤ 57343))
  · rw [if_pos hc] at hd
    rw [if_pos ⟨hc.1.1, fun k hk => (by
      rcases (show k = 0 ∨ k = 1 by omega) with rfl | rfl
      · exact hc.1.2.1
      · exact hc.1.2.2), by omega⟩, rd_of hd]
    simp
  · rw [if_neg hc] at hd
    rw [if_neg (fun h => hc ⟨⟨h.1, h.2.1 0 (by omega), h.2.1 1 (by omega)⟩, h.2.2.1, h.2.2.2.2⟩), rd_err hd]
theorem rd_four (s : ByteArray) (i : Nat) (h : 240 ≤ bt s i ∧ bt s i < 245) : rdS s i = if 3 < s.size - i ∧ (∀ k, k < 3 → 128 ≤ bt s (i + (k + 1)) ∧ bt s (i + (k + 1)) < 192) ∧ (65536 ≤ accB s i (bt s i - 240) 3 ∧ accB s i (bt s i - 240) 3 ≤ 1114111 ∧ ¬ (55296 ≤ accB s i (bt s i - 240) 3 ∧ accB s i (bt s i - 240) 3 ≤ 57343)) then (accB s i (bt s i - 240) 3, 4, true) else (65533, 1, false) := by
  have hd := dec_four s i (accB s i (bt s i - 240) 3) h rfl
  generalize accB s i (bt s i - 240) 3 = c at *
  by_cases hc : (3 < s.size - i ∧ (128 ≤ bt s (i + 1) ∧ bt s (i + 1) < 192) ∧ (128 ≤ bt s (i + 2) ∧ bt s (i + 2) < 192) ∧ 128 ≤ bt s (i + 3) ∧ bt s (i + 3) < 192) ∧ (65536 ≤ c ∧ c ≤ 1114111)
  · rw [if_pos hc] at hd
    rw [if_pos ⟨hc.1.1, fun k hk => (by
      rcases (show k = 0 ∨ k = 1 ∨ k = 2 by omega) with rfl | rfl | rfl
      · exact hc.1.2.1
      · exact hc.1.2.2.1
      · exact hc.1.2.2.2), by omega⟩, rd_of hd]
    simp
  · rw [if_neg hc] at hd
    rw [if_neg (fun h => hc ⟨⟨h.1, h.2.1 0 (by omega), h.2.1 1 (by omega), h.2.1 2 (by omega)⟩, h.2.2.1, h.2.2.2.1⟩), rd_err hd]
end Go.Proofs.YtabfhdmcljdjhaaGreatDoor.Gl
