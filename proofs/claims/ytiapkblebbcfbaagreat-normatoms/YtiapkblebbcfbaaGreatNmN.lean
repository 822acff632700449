/- The program's Check; boundOf, kindOf, rests. -/
import Derived.Test.YtiapkblebbcfbaaGreatNmM
namespace Go.Proofs.YtiapkblebbcfbaaGreat.Gl
open Go.RowKit
set_option linter.unusedVariables false
set_option linter.unusedSimpArgs false

theorem bool_of (p : Prop) : ∃ b : Bool, b = true ↔ p := by
  by_cases h : p
  · exact ⟨true, fun _ => h, fun _ => rfl⟩
  · exact ⟨false, (fun e => by cases e), fun e => absurd e h⟩
/-- a normal atom in memory -/
structure NrM (w : World) (N : Nr) (no co : Option Addr) (n c o d : Nat) : Prop where
  ns : RdS w no n c N.ns
  cs : RdZ w co o d N.cs
  short : Short N.ns
  i64 : ∀ z ∈ N.cs, I64 z
  bd : I64 N.bd
  max : o ≤ maxLen
theorem NrM.below {w w' : World} {N : Nr} {no co : Option Addr} {n c o d : Nat} (h : NrM w N no co n c o d) (hb : Below w.heap.size w w') : NrM w' N no co n c o d := ⟨h.ns.below (Nat.le_refl _) hb, h.cs.below (Nat.le_refl _) hb, h.short, h.i64, h.bd, h.max⟩
set_option maxHeartbeats 2000000 in
theorem check9_at (N : Nr) (no co : Option Addr) (n c o d : Nat) (er : Int) (w : World) (h : NrM w N no co n c o d) (hr : (er = 0 ∧ nrOk N) ∨ (er = 3 ∧ ¬ nrOk N)) :
    Calls Tryz.prog 13 #[nrV N.kd N.bd N.md no co n c o d] w fun e w' => e = .returned (.int .i64 er) ∧ Below w.heap.size w w' := by
  have hln : N.ns.length = n := h.ns.eqlen
  have hlo : N.cs.length = o := h.cs.eqlen
  have hB1 := bal w (.cells (nrA N.kd N.bd N.md no co n c o d) 44)
  have hR1 := rb_new w (nrA N.kd N.bd N.md no co n c o d) 44
  obtain ⟨b2, hb2⟩ := bool_of (Rise N.ns)
  obtain ⟨b3, hb3⟩ := bool_of (MFit N.kd N.bd N.md N.cs)
  obtain ⟨b4, hb4⟩ := bool_of (tight N)
  have C2 : Hid (∀ w', Below w.heap.size w w' → Calls Tryz.prog 30 #[.slice no n c] w' fun e w'' => e = .returned (.bool b2) ∧ Below w'.heap.size w' w'') := fun w' hw => prises_at no n c N.ns b2 w' ((h.below hw).ns) h.short hb2
  have C3 : Hid (∀ w', Below w.heap.size w w' → Calls Tryz.prog 31 #[nrV N.kd N.bd N.md no co n c o d] w' fun e w'' => e = .returned (.bool b3) ∧ Below w'.heap.size w' w'') := fun w' hw => modulusFits_at N.kd N.bd N.md no co n c o d N.cs b3 w' ((h.below hw).cs) hb3
  have C4 : Hid (∀ w', Below w.heap.size w w' → Calls Tryz.prog 23 #[nrV N.kd N.bd N.md no co n c o d] w' fun e w'' => e = .returned (.bool b4) ∧ Below w'.heap.size w' w'') := fun w' hw => narrow_at N.kd N.bd N.md no co n c o d N.cs b4 w' ((h.below hw).cs) h.i64 h.max h.bd hb4
  have HR : Hid ((er = 0 ∧ (o = n ∧ b2 = true ∧ b3 = true ∧ b4 = true)) ∨ (er = 3 ∧ ¬ (o = n ∧ b2 = true ∧ b3 = true ∧ b4 = true))) := by
    have e : nrOk N ↔ (o = n ∧ b2 = true ∧ b3 = true ∧ b4 = true) := by rw [nrOk_iff, hln, hlo, hb2, hb3, hb4]
    rw [← e]; exact hr
  clear hb2 hb3 hb4 hr hln hlo h
  by_cases h1 : o = n
  · subst h1
    have hq : ((o : Int) == (o : Int)) = true := by simp
    cases b2 with
    | false =>
      have HE : Hid (er = 3) := by rcases HR.out with ⟨-, -, e, -⟩ | ⟨e, -⟩; cases e; exact e
      clear HR C3 C4
      go_enter Tryz.func13, Tryz.ntmps13
      go_wp2_with (fail)
      refine (C2.out _ hB1).mono ?_
      rintro e w2 ⟨rfl, hB2⟩
      go_wp2_with (fail)
      go_ret
      exact ⟨ret1 HE.out.symm, bt2 hB1 hB2⟩
    | true =>
      cases b3 with
      | false =>
        have HE : Hid (er = 3) := by rcases HR.out with ⟨-, -, -, e, -⟩ | ⟨e, -⟩; cases e; exact e
        clear HR C4
        go_enter Tryz.func13, Tryz.ntmps13
        go_wp2_with (fail)
        refine (C2.out _ hB1).mono ?_
        rintro e w2 ⟨rfl, hB2⟩
        have hR2 := hR1.keep hB2
        obtain ⟨r0, -⟩ := txcell hR2 0 _ rfl
        obtain ⟨r1, -⟩ := txcell hR2 1 _ rfl
        obtain ⟨r2, -⟩ := txcell hR2 2 _ rfl
        obtain ⟨r3, -⟩ := txcell hR2 3 _ rfl
        obtain ⟨r4, -⟩ := txcell hR2 4 _ rfl
        go_wp2_with (fail)
        refine (C3.out _ (bt2 hB1 hB2)).mono ?_
        rintro e w3 ⟨rfl, hB3⟩
        go_wp2_with (fail)
        go_ret
        exact ⟨ret1 HE.out.symm, bt2 (bt2 hB1 hB2) hB3⟩
      | true =>
        have HE : Hid ((er = 0 ∧ b4 = true) ∨ (er = 3 ∧ b4 = false)) := by
          rcases HR.out with ⟨e, -, -, -, e4⟩ | ⟨e, hn⟩
          · exact .inl ⟨e, e4⟩
          · refine .inr ⟨e, ?_⟩
            cases b4 with
            | false => rfl
            | true => exact absurd ⟨rfl, rfl, rfl, rfl⟩ hn
        clear HR
        cases b4 with
        | true =>
          have HE2 : Hid (er = 0) := by rcases HE.out with ⟨e, -⟩ | ⟨-, e⟩; exact e; cases e
          clear HE
          go_enter Tryz.func13, Tryz.ntmps13
          go_wp2_with (fail)
          refine (C2.out _ hB1).mono ?_
          rintro e w2 ⟨rfl, hB2⟩
          have hR2 := hR1.keep hB2
          obtain ⟨r0, -⟩ := txcell hR2 0 _ rfl
          obtain ⟨r1, -⟩ := txcell hR2 1 _ rfl
          obtain ⟨r2, -⟩ := txcell hR2 2 _ rfl
          obtain ⟨r3, -⟩ := txcell hR2 3 _ rfl
          obtain ⟨r4, -⟩ := txcell hR2 4 _ rfl
          go_wp2_with (fail)
          refine (C3.out _ (bt2 hB1 hB2)).mono ?_
          rintro e w3 ⟨rfl, hB3⟩
          have hR3 := hR2.keep hB3
          obtain ⟨s0, -⟩ := txcell hR3 0 _ rfl
          obtain ⟨s1, -⟩ := txcell hR3 1 _ rfl
          obtain ⟨s2, -⟩ := txcell hR3 2 _ rfl
          obtain ⟨s3, -⟩ := txcell hR3 3 _ rfl
          obtain ⟨s4, -⟩ := txcell hR3 4 _ rfl
          go_wp2_with (fail)
          refine (C4.out _ (bt2 (bt2 hB1 hB2) hB3)).mono ?_
          rintro e w4 ⟨rfl, hB4⟩
          go_wp2_with (fail)
          go_ret
          exact ⟨ret1 HE2.out.symm, bt2 (bt2 (bt2 hB1 hB2) hB3) hB4⟩
        | false =>
          have HE2 : Hid (er = 3) := by rcases HE.out with ⟨-, e⟩ | ⟨e, -⟩; cases e; exact e
          clear HE
          go_enter Tryz.func13, Tryz.ntmps13
          go_wp2_with (fail)
          refine (C2.out _ hB1).mono ?_
          rintro e w2 ⟨rfl, hB2⟩
          have hR2 := hR1.keep hB2
          obtain ⟨r0, -⟩ := txcell hR2 0 _ rfl
          obtain ⟨r1, -⟩ := txcell hR2 1 _ rfl
          obtain ⟨r2, -⟩ := txcell hR2 2 _ rfl
          obtain ⟨r3, -⟩ := txcell hR2 3 _ rfl
          obtain ⟨r4, -⟩ := txcell hR2 4 _ rfl
          go_wp2_with (fail)
          refine (C3.out _ (bt2 hB1 hB2)).mono ?_
          rintro e w3 ⟨rfl, hB3⟩
          have hR3 := hR2.keep hB3
          obtain ⟨s0, -⟩ := txcell hR3 0 _ rfl
          obtain ⟨s1, -⟩ := txcell hR3 1 _ rfl
          obtain ⟨s2, -⟩ := txcell hR3 2 _ rfl
          obtain ⟨s3, -⟩ := txcell hR3 3 _ rfl
          obtain ⟨s4, -⟩ := txcell hR3 4 _ rfl
          go_wp2_with (fail)
          refine (C4.out _ (bt2 (bt2 hB1 hB2) hB3)).mono ?_
          rintro e w4 ⟨rfl, hB4⟩
          go_wp2_with (fail)
          go_ret
          exact ⟨ret1 HE2.out.symm, bt2 (bt2 (bt2 hB1 hB2) hB3) hB4⟩
  · have HE : Hid (er = 3) := by rcases HR.out with ⟨-, e, -⟩ | ⟨e, -⟩; exact absurd e h1; exact e
    have hq : ((n : Int) == (o : Int)) = false := by rw [beq_eq_false_iff_ne]; omega
    clear HR C2 C3 C4
    go_enter Tryz.func13, Tryz.ntmps13
    go_wp2_with (fail)
    go_ret
    exact ⟨ret1 HE.out.symm, hB1⟩
theorem kindOf_at (o : Int) (w : World) : Calls Tryz.prog 21 #[.int .i64 o] w fun e w' => e = .returned (.int .i64 (kdOf o)) ∧ w = w' := by
  have HK : Hid (∀ z, kdOf o = z → Ending.returned (.int .i64 z) = Ending.returned (.int .i64 (kdOf o))) := fun z h => by rw [h]
  by_cases h3 : o = 13
  · subst h3
    go_enter Tryz.func21, Tryz.ntmps21
    go_wp2
    go_ret
    exact ⟨rfl, rfl⟩
  · by_cases h4 : o = 14
    · subst h4
      go_enter Tryz.func21, Tryz.ntmps21
      go_wp2
      go_ret
      exact ⟨rfl, rfl⟩
    · by_cases h5 : o = 15
      · subst h5
        go_enter Tryz.func21, Tryz.ntmps21
        go_wp2
        go_ret
        exact ⟨rfl, rfl⟩
      · have e3 : (o == 13) = false := by rw [beq_eq_false_iff_ne]; exact h3
        have e4 : (o == 14) = false := by rw [beq_eq_false_iff_ne]; exact h4
        have e5 : (o == 15) = false := by rw [beq_eq_false_iff_ne]; exact h5
        have HE : Hid (kdOf o = 0) := by show _ = _; unfold kdOf; rw [if_neg (by omega), if_neg h5]
        clear h3 h4 h5
        go_enter Tryz.func21, Tryz.ntmps21
        go_wp2
        go_ret
        exact ⟨ret1 HE.out.symm, rfl⟩
/-- chk.Neg -/
theorem neg_yes (a : Int) (w : World) (ha : I64 a) (h : in64 (-a) = true) : Calls Tryz.prog 42 #[.int .i64 a] w fun e w' => e = .returned (.tuple #[.int .i64 (-a), .int .i64 0]) ∧ w = w' :=
  (Chk.neg_ok a w (by have := ((in64_iff _).1 h).2; omega) ha.2).mono fun e w' k => ⟨k.1, k.2.symm⟩
theorem neg_not (a : Int) (w : World) (ha : I64 a) (h : in64 (-a) = false) : Calls Tryz.prog 42 #[.int .i64 a] w fun e w' => e = .returned (.tuple #[.int .i64 0, .int .i64 10]) ∧ w = w' := by
  have e : a = -9223372036854775808 := by
    have h1 := in64_out h
    have h2 := ha.1
    have h3 := ha.2
    omega
  subst e
  exact (Chk.neg_no w).mono fun e w' k => ⟨k.1, k.2.symm⟩
theorem sub_yes (a b : Int) (w : World) (ha : I64 a) (hb : I64 b) (h : in64 (a - b) = true) : Calls Tryz.prog 36 #[.int .i64 a, .int .i64 b] w fun e w' => e = .returned (.tuple #[.int .i64 (a - b), .int .i64 0]) ∧ w = w' := (opc_sub.2 a b w ha hb).1 h
theorem sub_not (a b : Int) (w : World) (ha : I64 a) (hb : I64 b) (h : in64 (a - b) = false) : Calls Tryz.prog 36 #[.int .i64 a, .int .i64 b] w fun e w' => e = .returned (.tuple #[.int .i64 0, .int .i64 10]) ∧ w = w' := (opc_sub.2 a b w ha hb).2 h
theorem boundOf_at (o k : Int) (w : World) (hk : I64 k) (v er : Int) (hv : (in64 (-k) = true ∧ in64 (bdOf o k) = true ∧ v = bdOf o k ∧ er = 0) ∨ (¬ (in64 (-k) = true ∧ in64 (bdOf o k) = true) ∧ v = 0 ∧ er = 91)) :
    Calls Tryz.prog 20 #[.int .i64 o, .int .i64 k] w fun e w' => e = .returned (.tuple #[.int .i64 v, .int .i64 er]) ∧ w = w' := by
  cases h1 : in64 (-k) with
  | false =>
    have HE : v = 0 ∧ er = 91 := by
      rcases hv with ⟨e, -⟩ | ⟨-, e⟩
      · rw [h1] at e; cases e
      · exact e
    obtain ⟨rfl, rfl⟩ := HE
    have NG := mkHid (neg_not k w hk h1)
    clear hv h1
    go_enter Tryz.func20, Tryz.ntmps20
    go_wp2_with (fail)
    refine NG.out.mono ?_
    rintro e w' ⟨rfl, rfl⟩
    go_wp2_with (fail)
    go_ret2
    exact ⟨rfl, rfl⟩
  | true =>
    have NG := mkHid (neg_yes k w hk h1)
    have hnk := (in64_iff _).1 h1
    by_cases ho : o = 10 ∨ o = 12
    · have hb : bdOf o k = -k - 1 := if_pos ho
      rw [hb] at hv
      cases h2 : in64 (-k - 1) with
      | true =>
        have HE : v = -k - 1 ∧ er = 0 := by
          rcases hv with ⟨-, -, e⟩ | ⟨e, -⟩
          · exact e
          · exact absurd ⟨h1, h2⟩ e
        obtain ⟨rfl, rfl⟩ := HE
        have SB := mkHid (sub_yes (-k) 1 w hnk ⟨by decide, by decide⟩ h2)
        clear hv h1 h2 hb hnk
        rcases ho with rfl | rfl
        all_goals
          go_enter Tryz.func20, Tryz.ntmps20
          go_wp2_with (fail)
          refine NG.out.mono ?_
          rintro e w' ⟨rfl, rfl⟩
          go_wp2_with (fail)
          refine SB.out.mono ?_
          rintro e w' ⟨rfl, rfl⟩
          go_wp2_with (fail)
          go_ret2
          exact ⟨rfl, rfl⟩
      | false =>
        have HE : v = 0 ∧ er = 91 := by
          rcases hv with ⟨-, e, -⟩ | ⟨-, e⟩
          · rw [h2] at e; cases e
          · exact e
        obtain ⟨rfl, rfl⟩ := HE
        have SB := mkHid (sub_not (-k) 1 w hnk ⟨by decide, by decide⟩ h2)
        clear hv h1 h2 hb hnk
        rcases ho with rfl | rfl
        all_goals
          go_enter Tryz.func20, Tryz.ntmps20
          go_wp2_with (fail)
          refine NG.out.mono ?_
          rintro e w' ⟨rfl, rfl⟩
          go_wp2_with (fail)
          refine SB.out.mono ?_
          rintro e w' ⟨rfl, rfl⟩
          go_wp2_with (fail)
          go_ret2
          exact ⟨rfl, rfl⟩
    · have hb : bdOf o k = -k := if_neg ho
      rw [hb] at hv
      have HE : v = -k ∧ er = 0 := by
        rcases hv with ⟨-, -, e⟩ | ⟨e, -⟩
        · exact e
        · exact absurd ⟨h1, h1⟩ e
      obtain ⟨rfl, rfl⟩ := HE
      have e1 : (o == 10) = false := by rw [beq_eq_false_iff_ne]; omega
      have e2 : (o == 12) = false := by rw [beq_eq_false_iff_ne]; omega
      clear hv h1 hb hnk ho
      go_enter Tryz.func20, Tryz.ntmps20
      go_wp2_with (fail)
      refine NG.out.mono ?_
      rintro e w' ⟨rfl, rfl⟩
      go_wp2_with (fail)
      go_ret2
      exact ⟨rfl, rfl⟩
end Go.Proofs.YtiapkblebbcfbaaGreat.Gl
