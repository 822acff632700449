/- The document's wellTerm. -/
import Derived.Test.YtiapkblebbcfbaaGreatTrB
namespace Go.Proofs.YtiapkblebbcfbaaGreat.Gl
open Go.RowKit
set_option linter.unusedVariables false

theorem bta0 (w : World) (o : Obj) : Below w.heap.size w (w.alloc o) := (Below.refl _ _).alloc (Nat.le_refl _) o
set_option maxHeartbeats 1000000 in
theorem rwt0 (n : Int) (x : ByteArray) (ao : Option Addr) (len cap : Nat) (w : World) (hx : x.size ≤ 9223372036854775807) :
    Calls Tryz.prog 68 #[.agg #[.int .i64 0, .int .i64 n, .string x, .slice ao len cap]] w fun e w' => e = .returned (.bool (wT nmB 0 n x len)) ∧ Below w.heap.size w w' := by
  cases hx0 : (x.toList == []) with
  | false =>
    have HE : Hid (wT nmB 0 n x len = false) := by show _ = _; simp [wT, hx0]
    go_enter Tryz.func68, Tryz.ntmps68
    go_wp2
    go_ret
    exact ⟨retb HE.out.symm, bta0 _ _⟩
  | true =>
    by_cases hl : len = 0
    · subst hl
      cases hd : decide (0 ≤ n) with
      | true =>
        have HE : Hid (wT nmB 0 n x 0 = true) := by show _ = _; simp [wT, hx0, hd]
        go_enter Tryz.func68, Tryz.ntmps68
        go_wp2
        go_quiet (fail)
        go_wp2
        go_ret
        exact ⟨retb HE.out.symm, below_drewn (bta (bta0 _ _) _) _⟩
      | false =>
        have HE : Hid (wT nmB 0 n x 0 = false) := by show _ = _; simp [wT, hx0, hd]
        go_enter Tryz.func68, Tryz.ntmps68
        go_wp2
        go_quiet (fail)
        go_wp2
        go_ret
        exact ⟨retb HE.out.symm, below_drewn (bta (bta0 _ _) _) _⟩
    · have hl1 : ((len : Int) == 0) = false := by simp; omega
      have HE : Hid (wT nmB 0 n x len = false) := by show _ = _; simp [wT, hl]
      go_enter Tryz.func68, Tryz.ntmps68
      go_wp2
      go_quiet (fail)
      go_wp2
      go_ret
      exact ⟨retb HE.out.symm, below_drewn (bta (bta0 _ _) _) _⟩
set_option maxHeartbeats 1000000 in
theorem rwt1 (n : Int) (x : ByteArray) (ao : Option Addr) (len cap : Nat) (w : World) (hx : x.size ≤ 9223372036854775807) :
    Calls Tryz.prog 68 #[.agg #[.int .i64 1, .int .i64 n, .string x, .slice ao len cap]] w fun e w' => e = .returned (.bool (wT nmB 1 n x len)) ∧ Below w.heap.size w w' := by
  by_cases hn : n = 0
  · subst hn
    by_cases hl : len = 0
    · subst hl
      have HE : Hid (wT nmB 1 0 x 0 = nmB x) := by show _ = _; simp [wT]
      have NM : Hid (∀ w, Calls Tryz.prog 89 #[.string x] w fun e w' => e = .returned (.bool (nmB x)) ∧ Below w.heap.size w w') := fun w => rname_at x (nmB x) w hx (nmB_iff x)
      generalize nmB x = b at *
      obtain ⟨W1, hW1⟩ : ∃ W1, (w.alloc (.cells #[.int .i64 1, .int .i64 0, .string x, .slice ao 0 cap] 25)).alloc (.cells #[.int .i64 0, .int .i64 0, .int .i64 1, .int .i64 2, .int .i64 2, .int .i64 2] 3) = W1 := ⟨_, rfl⟩
      have q0 : W1.cell? ⟨w.heap.size, 1, none⟩ = some (.int .i64 0) ∧ W1.cell? ⟨w.heap.size, 2, none⟩ = some (.string x) ∧ W1.cell? ⟨w.heap.size, 3, none⟩ = some (.slice ao 0 cap) ∧ W1.cell? ⟨w.heap.size + 1, 1, none⟩ = some (.int .i64 0) := by rw [← hW1]; simp
      have hb1 : Below w.heap.size w W1 := by rw [← hW1]; exact bta (bta0 _ _) _
      have hs1 : w.heap.size + 1 < W1.heap.size := by rw [← hW1]; simp
      go_enter Tryz.func68, Tryz.ntmps68
      go_wp2
      clear hW1
      go_region_held3 (fun w' => w'.cell? ⟨w.heap.size, 1, none⟩ = some (.int .i64 0) ∧ w'.cell? ⟨w.heap.size, 2, none⟩ = some (.string x) ∧ w'.cell? ⟨w.heap.size, 3, none⟩ = some (.slice ao 0 cap) ∧ w'.cell? ⟨w.heap.size + 1, 1, none⟩ = some (.int .i64 0)) (first | exact q0 | exact q2) ((go_at_call 89; refine (NM.out _).mono ?_; rintro e w2 ⟨rfl, hB2⟩; have hBc := hb1.drew.trans (hB2.mono hb1.size); obtain ⟨hc2, _⟩ := bcell hB2; have q2 := And.intro ((hc2 _ 1 (by simp; omega)).trans q0.1) (And.intro ((hc2 _ 2 (by simp; omega)).trans q0.2.1) (And.intro ((hc2 _ 3 (by simp; omega)).trans q0.2.2.1) ((hc2 _ 1 (by simp; omega)).trans q0.2.2.2)))))
      go_wp2
      go_ret
      exact ⟨retb HE.out.symm, hBc⟩
    · have hl1 : ((len : Int) == 0) = false := by simp; omega
      have HE : Hid (wT nmB 1 0 x len = false) := by show _ = _; simp [wT, hl]
      go_enter Tryz.func68, Tryz.ntmps68
      go_wp2
      go_quiet (fail)
      go_wp2
      go_ret
      exact ⟨retb HE.out.symm, below_drewn (bta (bta0 _ _) _) _⟩
  · have hn1 : (n == 0) = false := by simpa using hn
    have HE : Hid (wT nmB 1 n x len = false) := by show _ = _; simp [wT, hn]
    go_enter Tryz.func68, Tryz.ntmps68
    go_wp2
    go_ret
    exact ⟨retb HE.out.symm, bta0 _ _⟩
set_option maxHeartbeats 1000000 in
theorem rwt2 (n : Int) (x : ByteArray) (ao : Option Addr) (len cap : Nat) (w : World) (hx : x.size ≤ 9223372036854775807) :
    Calls Tryz.prog 68 #[.agg #[.int .i64 2, .int .i64 n, .string x, .slice ao len cap]] w fun e w' => e = .returned (.bool (wT nmB 2 n x len)) ∧ Below w.heap.size w w' := by
  by_cases hn : n = 0
  · subst hn
    cases hx0 : (x.toList == []) with
    | false =>
      have HE : Hid (wT nmB 2 0 x len = false) := by show _ = _; simp [wT, hx0]
      go_enter Tryz.func68, Tryz.ntmps68
      go_wp2
      go_ret
      exact ⟨retb HE.out.symm, bta0 _ _⟩
    | true =>
      by_cases hl : len = 1
      · subst hl
        have HE : Hid (wT nmB 2 0 x 1 = true) := by show _ = _; simp [wT, hx0]
        go_enter Tryz.func68, Tryz.ntmps68
        go_wp2
        go_quiet (fail)
        go_wp2
        go_ret
        exact ⟨retb HE.out.symm, below_drewn (bta (bta0 _ _) _) _⟩
      · have hl1 : ((len : Int) == 1) = false := by simp; omega
        have HE : Hid (wT nmB 2 0 x len = false) := by show _ = _; simp [wT, hl]
        go_enter Tryz.func68, Tryz.ntmps68
        go_wp2
        go_quiet (fail)
        go_wp2
        go_ret
        exact ⟨retb HE.out.symm, below_drewn (bta (bta0 _ _) _) _⟩
  · have hn1 : (n == 0) = false := by simpa using hn
    have HE : Hid (wT nmB 2 n x len = false) := by show _ = _; simp [wT, hn]
    go_enter Tryz.func68, Tryz.ntmps68
    go_wp2
    go_ret
    exact ⟨retb HE.out.symm, bta0 _ _⟩
set_option maxHeartbeats 1000000 in
theorem rwt3 (n : Int) (x : ByteArray) (ao : Option Addr) (len cap : Nat) (w : World) (hx : x.size ≤ 9223372036854775807) :
    Calls Tryz.prog 68 #[.agg #[.int .i64 3, .int .i64 n, .string x, .slice ao len cap]] w fun e w' => e = .returned (.bool (wT nmB 3 n x len)) ∧ Below w.heap.size w w' := by
  by_cases hn : n = 0
  · subst hn
    cases hx0 : (x.toList == []) with
    | false =>
      have HE : Hid (wT nmB 3 0 x len = false) := by show _ = _; simp [wT, hx0]
      go_enter Tryz.func68, Tryz.ntmps68
      go_wp2
      go_ret
      exact ⟨retb HE.out.symm, bta0 _ _⟩
    | true =>
      by_cases hl : len = 2
      · subst hl
        have HE : Hid (wT nmB 3 0 x 2 = true) := by show _ = _; simp [wT, hx0]
        go_enter Tryz.func68, Tryz.ntmps68
        go_wp2
        go_quiet (fail)
        go_wp2
        go_ret
        exact ⟨retb HE.out.symm, below_drewn (bta (bta0 _ _) _) _⟩
      · have hl1 : ((len : Int) == 2) = false := by simp; omega
        have HE : Hid (wT nmB 3 0 x len = false) := by show _ = _; simp [wT, hl]
        go_enter Tryz.func68, Tryz.ntmps68
        go_wp2
        go_quiet (fail)
        go_wp2
        go_ret
        exact ⟨retb HE.out.symm, below_drewn (bta (bta0 _ _) _) _⟩
  · have hn1 : (n == 0) = false := by simpa using hn
    have HE : Hid (wT nmB 3 n x len = false) := by show _ = _; simp [wT, hn]
    go_enter Tryz.func68, Tryz.ntmps68
    go_wp2
    go_ret
    exact ⟨retb HE.out.symm, bta0 _ _⟩
set_option maxHeartbeats 1000000 in
theorem rwt4 (n : Int) (x : ByteArray) (ao : Option Addr) (len cap : Nat) (w : World) (hx : x.size ≤ 9223372036854775807) :
    Calls Tryz.prog 68 #[.agg #[.int .i64 4, .int .i64 n, .string x, .slice ao len cap]] w fun e w' => e = .returned (.bool (wT nmB 4 n x len)) ∧ Below w.heap.size w w' := by
  by_cases hn : n = 0
  · subst hn
    cases hx0 : (x.toList == []) with
    | false =>
      have HE : Hid (wT nmB 4 0 x len = false) := by show _ = _; simp [wT, hx0]
      go_enter Tryz.func68, Tryz.ntmps68
      go_wp2
      go_ret
      exact ⟨retb HE.out.symm, bta0 _ _⟩
    | true =>
      by_cases hl : len = 2
      · subst hl
        have HE : Hid (wT nmB 4 0 x 2 = true) := by show _ = _; simp [wT, hx0]
        go_enter Tryz.func68, Tryz.ntmps68
        go_wp2
        go_quiet (fail)
        go_wp2
        go_ret
        exact ⟨retb HE.out.symm, below_drewn (bta (bta0 _ _) _) _⟩
      · have hl1 : ((len : Int) == 2) = false := by simp; omega
        have HE : Hid (wT nmB 4 0 x len = false) := by show _ = _; simp [wT, hl]
        go_enter Tryz.func68, Tryz.ntmps68
        go_wp2
        go_quiet (fail)
        go_wp2
        go_ret
        exact ⟨retb HE.out.symm, below_drewn (bta (bta0 _ _) _) _⟩
  · have hn1 : (n == 0) = false := by simpa using hn
    have HE : Hid (wT nmB 4 n x len = false) := by show _ = _; simp [wT, hn]
    go_enter Tryz.func68, Tryz.ntmps68
    go_wp2
    go_ret
    exact ⟨retb HE.out.symm, bta0 _ _⟩
set_option maxHeartbeats 1000000 in
theorem rwt5 (n : Int) (x : ByteArray) (ao : Option Addr) (len cap : Nat) (w : World) (hx : x.size ≤ 9223372036854775807) :
    Calls Tryz.prog 68 #[.agg #[.int .i64 5, .int .i64 n, .string x, .slice ao len cap]] w fun e w' => e = .returned (.bool (wT nmB 5 n x len)) ∧ Below w.heap.size w w' := by
  by_cases hn : n = 0
  · subst hn
    cases hx0 : (x.toList == []) with
    | false =>
      have HE : Hid (wT nmB 5 0 x len = false) := by show _ = _; simp [wT, hx0]
      go_enter Tryz.func68, Tryz.ntmps68
      go_wp2
      go_ret
      exact ⟨retb HE.out.symm, bta0 _ _⟩
    | true =>
      by_cases hl : len = 2
      · subst hl
        have HE : Hid (wT nmB 5 0 x 2 = true) := by show _ = _; simp [wT, hx0]
        go_enter Tryz.func68, Tryz.ntmps68
        go_wp2
        go_quiet (fail)
        go_wp2
        go_ret
        exact ⟨retb HE.out.symm, below_drewn (bta (bta0 _ _) _) _⟩
      · have hl1 : ((len : Int) == 2) = false := by simp; omega
        have HE : Hid (wT nmB 5 0 x len = false) := by show _ = _; simp [wT, hl]
        go_enter Tryz.func68, Tryz.ntmps68
        go_wp2
        go_quiet (fail)
        go_wp2
        go_ret
        exact ⟨retb HE.out.symm, below_drewn (bta (bta0 _ _) _) _⟩
  · have hn1 : (n == 0) = false := by simpa using hn
    have HE : Hid (wT nmB 5 n x len = false) := by show _ = _; simp [wT, hn]
    go_enter Tryz.func68, Tryz.ntmps68
    go_wp2
    go_ret
    exact ⟨retb HE.out.symm, bta0 _ _⟩
theorem rwt_out (o n : Int) (x : ByteArray) (ao : Option Addr) (len cap : Nat) (w : World) (h : o < 0 ∨ 5 < o) :
    Calls Tryz.prog 68 #[.agg #[.int .i64 o, .int .i64 n, .string x, .slice ao len cap]] w fun e w' => e = .returned (.bool false) ∧ Below w.heap.size w w' := by
  by_cases h0 : o < 0
  · go_enter Tryz.func68, Tryz.ntmps68
    go_wp2
    go_ret
    exact ⟨rfl, bta0 _ _⟩
  · have h1 : decide (o < 0) = false := decide_eq_false h0
    have h2 : 5 < o := by omega
    clear h
    go_enter Tryz.func68, Tryz.ntmps68
    go_wp2
    go_ret
    exact ⟨rfl, bta0 _ _⟩
theorem rwellT_at (W : World) (t : Tm) (v : Value) (w : World) (h : TmV W t v) :
    Calls Tryz.prog 68 #[v] w fun e w' => e = .returned (.bool (wellT nmB t)) ∧ Below w.heap.size w w' := by
  obtain ⟨c0, c1, c2, c3, rfl, hr⟩ := h
  cases t with
  | mk o n x a =>
    rw [RdT] at hr
    obtain ⟨rfl, rfl, rfl, hb, ao, cap, rfl, _⟩ := hr
    show Calls Tryz.prog 68 _ w fun e w' => e = .returned (.bool (wT nmB o n x a.length)) ∧ _
    by_cases ho : o < 0 ∨ 5 < o
    · have : wT nmB o n x a.length = false := by unfold wT; rw [if_neg (by omega), if_neg (by omega), if_neg (by omega), if_neg (by omega)]
      rw [this]
      exact rwt_out o n x ao _ cap w ho
    · rcases (show o = 0 ∨ o = 1 ∨ o = 2 ∨ o = 3 ∨ o = 4 ∨ o = 5 by omega) with rfl | rfl | rfl | rfl | rfl | rfl
      · exact rwt0 n x ao _ cap w hb.2.2
      · exact rwt1 n x ao _ cap w hb.2.2
      · exact rwt2 n x ao _ cap w hb.2.2
      · exact rwt3 n x ao _ cap w hb.2.2
      · exact rwt4 n x ao _ cap w hb.2.2
      · exact rwt5 n x ao _ cap w hb.2.2
end Go.Proofs.YtiapkblebbcfbaaGreat.Gl
/- The document's wellMade. -/
namespace Go.Proofs.YtiapkblebbcfbaaGreat.Gl
open Go.RowKit
set_option linter.unusedVariables false

theorem seven_cases {P : Nat → Prop} (k : Nat) (hk : k < 9) (h7 : k ≠ 7) (h8 : k ≠ 8) (h0 : P 0) (h1 : P 1) (h2 : P 2) (h3 : P 3) (h4 : P 4) (h5 : P 5) (h6 : P 6) : P k := by
  rcases (show k = 0 ∨ k = 1 ∨ k = 2 ∨ k = 3 ∨ k = 4 ∨ k = 5 ∨ k = 6 by omega) with rfl | rfl | rfl | rfl | rfl | rfl | rfl <;> assumption
abbrev paL : List Nat := [0, 0, 1, 2, 2, 2, 2, 1, 1, 0, 0, 0, 0, 0, 0, 0]
theorem parts_cell (W : World) (k A : Nat) (h : paL[k]? = some A) : (W.alloc (.cells #[.int .i64 0, .int .i64 0, .int .i64 1, .int .i64 2, .int .i64 2, .int .i64 2, .int .i64 2, .int .i64 1, .int .i64 1, .int .i64 0, .int .i64 0, .int .i64 0, .int .i64 0, .int .i64 0, .int .i64 0, .int .i64 0] 3)).cell? ⟨W.heap.size, k, none⟩ = some (.int .i64 A) := by
  have hk : k < 16 := (List.getElem?_eq_some_iff.1 h).1
  match k, hk, h with
  | 0, _, h => cases h; simp
  | 1, _, h => cases h; simp
  | 2, _, h => cases h; simp
  | 3, _, h => cases h; simp
  | 4, _, h => cases h; simp
  | 5, _, h => cases h; simp
  | 6, _, h => cases h; simp
  | 7, _, h => cases h; simp
  | 8, _, h => cases h; simp
  | 9, _, h => cases h; simp
  | 10, _, h => cases h; simp
  | 11, _, h => cases h; simp
  | 12, _, h => cases h; simp
  | 13, _, h => cases h; simp
  | 14, _, h => cases h; simp
  | 15, _, h => cases h; simp
  | n + 16, hk, _ => omega
theorem pa_low (k : Nat) (h9 : k < 9) (h7 : k ≠ 7) (h8 : k ≠ 8) : ∃ A, paL[k]? = some A ∧ A ≤ 2 ∧ A = if (k : Int) = 2 then 1 else if 3 ≤ (k : Int) ∧ (k : Int) ≤ 6 then 2 else 0 :=
  seven_cases (P := fun k => ∃ A, paL[k]? = some A ∧ A ≤ 2 ∧ A = if (k : Int) = 2 then 1 else if 3 ≤ (k : Int) ∧ (k : Int) ≤ 6 then 2 else 0) k h9 h7 h8 ⟨_, rfl, by decide, by decide⟩ ⟨_, rfl, by decide, by decide⟩ ⟨_, rfl, by decide, by decide⟩ ⟨_, rfl, by decide, by decide⟩ ⟨_, rfl, by decide, by decide⟩ ⟨_, rfl, by decide, by decide⟩ ⟨_, rfl, by decide, by decide⟩
theorem pa_high (k : Nat) (hk : k ≤ 14) (h9 : 9 ≤ k) : ∃ A, paL[k]? = some A ∧ A ≤ 2 ∧ A = 0 := by
  rcases (show k = 9 ∨ k = 10 ∨ k = 11 ∨ k = 12 ∨ k = 13 ∨ k = 14 by omega) with rfl | rfl | rfl | rfl | rfl | rfl <;> exact ⟨0, rfl, by decide, rfl⟩
set_option maxHeartbeats 2000000 in
theorem rwfL (k A : Nat) (x : ByteArray) (m : Int) (bo ao : Option Addr) (nt ct na ca : Nat) (w : World) (hk : k ≤ 14) (hc : k < 9) (h7 : k ≠ 7) (h8 : k ≠ 8) (hA : paL[k]? = some A) (hA2 : A ≤ 2)
    (hw : ∀ x m nt na, wF nmB (k : Nat) x m nt na = ((x.toList == []) && decide (m = 0) && decide (nt = 0) && decide (na = A))) :
    Calls Tryz.prog 90 #[.agg #[.int .i64 k, .string x, .int .i64 m, .slice bo nt ct, .slice ao na ca]] w fun e w' => e = .returned (.bool (wF nmB (k : Nat) x m nt na)) ∧ Below w.heap.size w w' := by
  have HE : Hid (wF nmB (k : Nat) x m nt na = ((x.toList == []) && decide (m = 0) && decide (nt = 0) && decide (na = A))) := hw x m nt na
  have hp := parts_cell (w.alloc (.cells #[.int .i64 k, .string x, .int .i64 m, .slice bo nt ct, .slice ao na ca] 41)) k A hA
  rw [World.size_alloc] at hp
  have d1 : decide ((k : Int) < 0) = false := decide_eq_false (by omega)
  have d2 : decide (15 < k) = false := decide_eq_false (by omega)
  have d3 : ((k : Int) == 7) = false := by simp; omega
  have d4 : ((k : Int) == 8) = false := by simp; omega
  have d5 : ((k : Int) == 15) = false := by simp; omega
  have d6 : ((k : Int) != 15) = true := by simp; omega
  have d7 : decide ((9 : Int) ≤ (k : Int)) = false := decide_eq_false (by omega)
  have i1 : (0 : Int) ≤ (k : Int) := by omega
  have i2 : (k : Int) < 16 := by omega
  clear hw hA
  cases hx0 : (x.toList == []) with
  | false =>
    have HF : Hid (wF nmB (k : Nat) x m nt na = false) := by show _ = _; rw [HE.out, hx0]; rfl
    clear HE hp
    go_enter Tryz.func90, Tryz.ntmps90
    go_wp2
    go_ret
    exact ⟨retb HF.out.symm, bta0 _ _⟩
  | true =>
    by_cases hm : m = 0
    · subst hm
      by_cases ha : na = A
      · have ha1 : ((na : Int) == (A : Int)) = true := by simp; omega
        by_cases ht : nt = 0
        · subst ht
          have HF : Hid (wF nmB (k : Nat) x 0 0 na = true) := by show _ = _; rw [HE.out, hx0, ha]; simp
          clear HE ha
          go_enter Tryz.func90, Tryz.ntmps90
          go_wp2
          go_quiet (fail)
          go_wp2
          go_ret
          exact ⟨retb HF.out.symm, below_drewn (bta (bta0 _ _) _) _⟩
        · have ht1 : ((nt : Int) == 0) = false := by simp; omega
          have HF : Hid (wF nmB (k : Nat) x 0 nt na = false) := by show _ = _; rw [HE.out]; simp [ht]
          clear HE ha
          go_enter Tryz.func90, Tryz.ntmps90
          go_wp2
          go_quiet (fail)
          go_wp2
          go_ret
          exact ⟨retb HF.out.symm, below_drewn (bta (bta0 _ _) _) _⟩
      · have ha1 : ((na : Int) == (A : Int)) = false := by simp; omega
        have HF : Hid (wF nmB (k : Nat) x 0 nt na = false) := by show _ = _; rw [HE.out]; simp [ha]
        clear HE ha
        go_enter Tryz.func90, Tryz.ntmps90
        go_wp2
        go_quiet (fail)
        go_wp2
        go_ret
        exact ⟨retb HF.out.symm, below_drewn (bta (bta0 _ _) _) _⟩
    · have hm1 : (m == 0) = false := by simpa using hm
      have HF : Hid (wF nmB (k : Nat) x m nt na = false) := by show _ = _; rw [HE.out]; simp [hm]
      clear HE hp
      go_enter Tryz.func90, Tryz.ntmps90
      go_wp2
      go_ret
      exact ⟨retb HF.out.symm, bta0 _ _⟩
set_option maxHeartbeats 2000000 in
theorem rwfH (k A : Nat) (x : ByteArray) (m : Int) (bo ao : Option Addr) (nt ct na ca : Nat) (w : World) (hk : k ≤ 14) (hc : 9 ≤ k) (h7 : k ≠ 7) (h8 : k ≠ 8) (hA : paL[k]? = some A) (hA2 : A ≤ 2)
    (hw : ∀ x m nt na, wF nmB (k : Nat) x m nt na = ((x.toList == []) && decide (m = 0) && decide (nt = 2) && decide (na = A))) :
    Calls Tryz.prog 90 #[.agg #[.int .i64 k, .string x, .int .i64 m, .slice bo nt ct, .slice ao na ca]] w fun e w' => e = .returned (.bool (wF nmB (k : Nat) x m nt na)) ∧ Below w.heap.size w w' := by
  have HE : Hid (wF nmB (k : Nat) x m nt na = ((x.toList == []) && decide (m = 0) && decide (nt = 2) && decide (na = A))) := hw x m nt na
  have hp := parts_cell (w.alloc (.cells #[.int .i64 k, .string x, .int .i64 m, .slice bo nt ct, .slice ao na ca] 41)) k A hA
  rw [World.size_alloc] at hp
  have d1 : decide ((k : Int) < 0) = false := decide_eq_false (by omega)
  have d2 : decide (15 < k) = false := decide_eq_false (by omega)
  have d3 : ((k : Int) == 7) = false := by simp; omega
  have d4 : ((k : Int) == 8) = false := by simp; omega
  have d5 : ((k : Int) == 15) = false := by simp; omega
  have d6 : ((k : Int) != 15) = true := by simp; omega
  have d7 : (9 : Int) ≤ (k : Int) := by omega
  have i1 : (0 : Int) ≤ (k : Int) := by omega
  have i2 : (k : Int) < 16 := by omega
  clear hw hA
  cases hx0 : (x.toList == []) with
  | false =>
    have HF : Hid (wF nmB (k : Nat) x m nt na = false) := by show _ = _; rw [HE.out, hx0]; rfl
    clear HE hp
    go_enter Tryz.func90, Tryz.ntmps90
    go_wp2
    go_ret
    exact ⟨retb HF.out.symm, bta0 _ _⟩
  | true =>
    by_cases hm : m = 0
    · subst hm
      by_cases ha : na = A
      · have ha1 : ((na : Int) == (A : Int)) = true := by simp; omega
        by_cases ht : nt = 2
        · subst ht
          have HF : Hid (wF nmB (k : Nat) x 0 2 na = true) := by show _ = _; rw [HE.out, hx0, ha]; simp
          clear HE ha
          go_enter Tryz.func90, Tryz.ntmps90
          go_wp2
          go_quiet (fail)
          go_wp2
          go_ret
          exact ⟨retb HF.out.symm, below_drewn (bta (bta0 _ _) _) _⟩
        · have ht1 : ((nt : Int) == 2) = false := by simp; omega
          have HF : Hid (wF nmB (k : Nat) x 0 nt na = false) := by show _ = _; rw [HE.out]; simp [ht]
          clear HE ha
          go_enter Tryz.func90, Tryz.ntmps90
          go_wp2
          go_quiet (fail)
          go_wp2
          go_ret
          exact ⟨retb HF.out.symm, below_drewn (bta (bta0 _ _) _) _⟩
      · have ha1 : ((na : Int) == (A : Int)) = false := by simp; omega
        have HF : Hid (wF nmB (k : Nat) x 0 nt na = false) := by show _ = _; rw [HE.out]; simp [ha]
        clear HE ha
        go_enter Tryz.func90, Tryz.ntmps90
        go_wp2
        go_quiet (fail)
        go_wp2
        go_ret
        exact ⟨retb HF.out.symm, below_drewn (bta (bta0 _ _) _) _⟩
    · have hm1 : (m == 0) = false := by simpa using hm
      have HF : Hid (wF nmB (k : Nat) x m nt na = false) := by show _ = _; rw [HE.out]; simp [hm]
      clear HE hp
      go_enter Tryz.func90, Tryz.ntmps90
      go_wp2
      go_ret
      exact ⟨retb HF.out.symm, bta0 _ _⟩
set_option maxHeartbeats 1000000 in
theorem rwf7 (x : ByteArray) (m : Int) (bo ao : Option Addr) (nt ct na ca : Nat) (w : World) (hx : x.size ≤ 9223372036854775807) :
    Calls Tryz.prog 90 #[.agg #[.int .i64 7, .string x, .int .i64 m, .slice bo nt ct, .slice ao na ca]] w fun e w' => e = .returned (.bool (wF nmB 7 x m nt na)) ∧ Below w.heap.size w w' := by
  have NM : Hid (∀ w, Calls Tryz.prog 89 #[.string x] w fun e w' => e = .returned (.bool (nmB x)) ∧ Below w.heap.size w w') := fun w => rname_at x (nmB x) w hx (nmB_iff x)
  cases hb : nmB x with
  | false =>
    rw [hb] at NM
    have HE : Hid (wF nmB 7 x m nt na = false) := by show _ = _; simp [wF, hb]
    clear hb
    go_enter Tryz.func90, Tryz.ntmps90
    go_wp2_with (go_at_call 89; refine (NM.out _).mono ?_; rintro e w2 ⟨rfl, hB2⟩; obtain ⟨hc, hf, hd, hg⟩ := res_keep hB2; have hb2 := ba2 hB2)
    go_ret
    exact ⟨retb HE.out.symm, hb2⟩
  | true =>
    rw [hb] at NM
    by_cases hm : m = 0
    · subst hm
      by_cases ha : na = 1
      · subst ha
        by_cases ht : nt = 0
        · subst ht
          have HE : Hid (wF nmB 7 x 0 0 1 = true) := by show _ = _; simp [wF, hb]
          go_enter Tryz.func90, Tryz.ntmps90
          go_wp2_with (go_at_call 89; refine (NM.out _).mono ?_; rintro e w2 ⟨rfl, hB2⟩; obtain ⟨hc, hf, hd, hg⟩ := res_keep hB2; have hb2 := ba2 hB2)
          go_quiet (fail)
          go_wp2
          go_ret
          exact ⟨retb HE.out.symm, below_drewn (bta hb2 _) _⟩
        · have ht1 : ((nt : Int) == 0) = false := by simp; omega
          have HE : Hid (wF nmB 7 x 0 nt 1 = false) := by show _ = _; simp [wF, ht]
          go_enter Tryz.func90, Tryz.ntmps90
          go_wp2_with (go_at_call 89; refine (NM.out _).mono ?_; rintro e w2 ⟨rfl, hB2⟩; obtain ⟨hc, hf, hd, hg⟩ := res_keep hB2; have hb2 := ba2 hB2)
          go_quiet (fail)
          go_wp2
          go_ret
          exact ⟨retb HE.out.symm, below_drewn (bta hb2 _) _⟩
      · have ha1 : ((na : Int) == 1) = false := by simp; omega
        have HE : Hid (wF nmB 7 x 0 nt na = false) := by show _ = _; simp [wF, ha]
        go_enter Tryz.func90, Tryz.ntmps90
        go_wp2_with (go_at_call 89; refine (NM.out _).mono ?_; rintro e w2 ⟨rfl, hB2⟩; obtain ⟨hc, hf, hd, hg⟩ := res_keep hB2; have hb2 := ba2 hB2)
        go_quiet (fail)
        go_wp2
        go_ret
        exact ⟨retb HE.out.symm, below_drewn (bta hb2 _) _⟩
    · have hm1 : (m == 0) = false := by simpa using hm
      have HE : Hid (wF nmB 7 x m nt na = false) := by show _ = _; simp [wF, hm]
      go_enter Tryz.func90, Tryz.ntmps90
      go_wp2_with (go_at_call 89; refine (NM.out _).mono ?_; rintro e w2 ⟨rfl, hB2⟩; obtain ⟨hc, hf, hd, hg⟩ := res_keep hB2; have hb2 := ba2 hB2)
      go_ret
      exact ⟨retb HE.out.symm, hb2⟩
set_option maxHeartbeats 1000000 in
theorem rwf8 (x : ByteArray) (m : Int) (bo ao : Option Addr) (nt ct na ca : Nat) (w : World) (hx : x.size ≤ 9223372036854775807) :
    Calls Tryz.prog 90 #[.agg #[.int .i64 8, .string x, .int .i64 m, .slice bo nt ct, .slice ao na ca]] w fun e w' => e = .returned (.bool (wF nmB 8 x m nt na)) ∧ Below w.heap.size w w' := by
  have NM : Hid (∀ w, Calls Tryz.prog 89 #[.string x] w fun e w' => e = .returned (.bool (nmB x)) ∧ Below w.heap.size w w') := fun w => rname_at x (nmB x) w hx (nmB_iff x)
  cases hb : nmB x with
  | false =>
    rw [hb] at NM
    have HE : Hid (wF nmB 8 x m nt na = false) := by show _ = _; simp [wF, hb]
    clear hb
    go_enter Tryz.func90, Tryz.ntmps90
    go_wp2_with (go_at_call 89; refine (NM.out _).mono ?_; rintro e w2 ⟨rfl, hB2⟩; obtain ⟨hc, hf, hd, hg⟩ := res_keep hB2; have hb2 := ba2 hB2)
    go_ret
    exact ⟨retb HE.out.symm, hb2⟩
  | true =>
    rw [hb] at NM
    by_cases hm : m = 0
    · subst hm
      by_cases ha : na = 1
      · subst ha
        by_cases ht : nt = 0
        · subst ht
          have HE : Hid (wF nmB 8 x 0 0 1 = true) := by show _ = _; simp [wF, hb]
          go_enter Tryz.func90, Tryz.ntmps90
          go_wp2_with (go_at_call 89; refine (NM.out _).mono ?_; rintro e w2 ⟨rfl, hB2⟩; obtain ⟨hc, hf, hd, hg⟩ := res_keep hB2; have hb2 := ba2 hB2)
          go_quiet (fail)
          go_wp2
          go_ret
          exact ⟨retb HE.out.symm, below_drewn (bta hb2 _) _⟩
        · have ht1 : ((nt : Int) == 0) = false := by simp; omega
          have HE : Hid (wF nmB 8 x 0 nt 1 = false) := by show _ = _; simp [wF, ht]
          go_enter Tryz.func90, Tryz.ntmps90
          go_wp2_with (go_at_call 89; refine (NM.out _).mono ?_; rintro e w2 ⟨rfl, hB2⟩; obtain ⟨hc, hf, hd, hg⟩ := res_keep hB2; have hb2 := ba2 hB2)
          go_quiet (fail)
          go_wp2
          go_ret
          exact ⟨retb HE.out.symm, below_drewn (bta hb2 _) _⟩
      · have ha1 : ((na : Int) == 1) = false := by simp; omega
        have HE : Hid (wF nmB 8 x 0 nt na = false) := by show _ = _; simp [wF, ha]
        go_enter Tryz.func90, Tryz.ntmps90
        go_wp2_with (go_at_call 89; refine (NM.out _).mono ?_; rintro e w2 ⟨rfl, hB2⟩; obtain ⟨hc, hf, hd, hg⟩ := res_keep hB2; have hb2 := ba2 hB2)
        go_quiet (fail)
        go_wp2
        go_ret
        exact ⟨retb HE.out.symm, below_drewn (bta hb2 _) _⟩
    · have hm1 : (m == 0) = false := by simpa using hm
      have HE : Hid (wF nmB 8 x m nt na = false) := by show _ = _; simp [wF, hm]
      go_enter Tryz.func90, Tryz.ntmps90
      go_wp2_with (go_at_call 89; refine (NM.out _).mono ?_; rintro e w2 ⟨rfl, hB2⟩; obtain ⟨hc, hf, hd, hg⟩ := res_keep hB2; have hb2 := ba2 hB2)
      go_ret
      exact ⟨retb HE.out.symm, hb2⟩
set_option maxHeartbeats 1000000 in
theorem rwf15 (x : ByteArray) (m : Int) (bo ao : Option Addr) (nt ct na ca : Nat) (w : World) (hx : x.size ≤ 9223372036854775807) :
    Calls Tryz.prog 90 #[.agg #[.int .i64 15, .string x, .int .i64 m, .slice bo nt ct, .slice ao na ca]] w fun e w' => e = .returned (.bool (wF nmB 15 x m nt na)) ∧ Below w.heap.size w w' := by
  cases hx0 : (x.toList == []) with
  | false =>
    have HE : Hid (wF nmB 15 x m nt na = false) := by show _ = _; simp [wF, hx0]
    go_enter Tryz.func90, Tryz.ntmps90
    go_wp2
    go_ret
    exact ⟨retb HE.out.symm, bta0 _ _⟩
  | true =>
    by_cases hm : 1 ≤ m
    · have hm1 : decide (m < 1) = false := decide_eq_false (by omega)
      have hm2 : decide (1 ≤ m) = true := decide_eq_true hm
      by_cases ha : na = 0
      · subst ha
        by_cases ht : nt = 2
        · subst ht
          have HE : Hid (wF nmB 15 x m 2 0 = true) := by show _ = _; simp [wF, hx0, hm]
          go_enter Tryz.func90, Tryz.ntmps90
          go_wp2
          go_quiet (fail)
          go_wp2
          go_ret
          exact ⟨retb HE.out.symm, below_drewn (bta (bta0 _ _) _) _⟩
        · have ht1 : ((nt : Int) == 2) = false := by simp; omega
          have HE : Hid (wF nmB 15 x m nt 0 = false) := by show _ = _; simp [wF, ht]
          go_enter Tryz.func90, Tryz.ntmps90
          go_wp2
          go_quiet (fail)
          go_wp2
          go_ret
          exact ⟨retb HE.out.symm, below_drewn (bta (bta0 _ _) _) _⟩
      · have ha1 : ((na : Int) == 0) = false := by simp; omega
        have HE : Hid (wF nmB 15 x m nt na = false) := by show _ = _; simp [wF, ha]
        go_enter Tryz.func90, Tryz.ntmps90
        go_wp2
        go_quiet (fail)
        go_wp2
        go_ret
        exact ⟨retb HE.out.symm, below_drewn (bta (bta0 _ _) _) _⟩
    · have hm1 : m < 1 := by omega
      have HE : Hid (wF nmB 15 x m nt na = false) := by show _ = _; simp [wF]; omega
      go_enter Tryz.func90, Tryz.ntmps90
      go_wp2
      go_ret
      exact ⟨retb HE.out.symm, bta0 _ _⟩
theorem rwf_out (o : Int) (x : ByteArray) (m : Int) (bo ao : Option Addr) (nt ct na ca : Nat) (w : World) (h : o < 0 ∨ 15 < o) :
    Calls Tryz.prog 90 #[.agg #[.int .i64 o, .string x, .int .i64 m, .slice bo nt ct, .slice ao na ca]] w fun e w' => e = .returned (.bool false) ∧ Below w.heap.size w w' := by
  by_cases h0 : o < 0
  · go_enter Tryz.func90, Tryz.ntmps90
    go_wp2
    go_ret
    exact ⟨rfl, bta0 _ _⟩
  · have h1 : decide (o < 0) = false := decide_eq_false h0
    have h2 : 15 < o := by omega
    clear h
    go_enter Tryz.func90, Tryz.ntmps90
    go_wp2
    go_ret
    exact ⟨rfl, bta0 _ _⟩
theorem rwellF_at (W : World) (f : Fm) (v : Value) (w : World) (h : FmV W f v) :
    Calls Tryz.prog 90 #[v] w fun e w' => e = .returned (.bool (wellF nmB f)) ∧ Below w.heap.size w w' := by
  obtain ⟨c0, c1, c2, c3, c4, rfl, hr⟩ := h
  cases f with
  | mk o x m t a =>
    rw [RdF] at hr
    obtain ⟨rfl, rfl, rfl, hb, ⟨bo, ct, rfl, _⟩, ao, ca, rfl, _⟩ := hr
    show Calls Tryz.prog 90 _ w fun e w' => e = .returned (.bool (wF nmB o x m t.length a.length)) ∧ _
    by_cases ho : o < 0 ∨ 15 < o
    · have : wF nmB o x m t.length a.length = false := by unfold wF; rw [if_neg (by omega), if_neg (by omega), if_neg (by omega)]
      rw [this]
      exact rwf_out o x m bo ao _ ct _ ca w ho
    · by_cases h7 : o = 7
      · subst h7; exact rwf7 x m bo ao _ ct _ ca w hb.2.2
      · by_cases h8 : o = 8
        · subst h8; exact rwf8 x m bo ao _ ct _ ca w hb.2.2
        · by_cases h15 : o = 15
          · subst h15; exact rwf15 x m bo ao _ ct _ ca w hb.2.2
          · obtain ⟨k, rfl⟩ : ∃ k : Nat, o = (k : Int) := ⟨o.toNat, by omega⟩
            have hk : k ≤ 14 := by omega
            by_cases h9 : k < 9
            · obtain ⟨A, hA, hA2, hA3⟩ := pa_low k h9 (by omega) (by omega)
              exact rwfL k A x m bo ao _ ct _ ca w hk h9 (by omega) (by omega) hA hA2 (fun x m nt na => by
                unfold wF
                rw [if_neg (by omega), if_neg (by omega), if_pos (by omega), if_neg (by omega), hA3])
            · obtain ⟨A, hA, hA2, hA3⟩ := pa_high k hk (by omega)
              exact rwfH k A x m bo ao _ ct _ ca w hk (by omega) (by omega) (by omega) hA hA2 (fun x m nt na => by
                unfold wF
                rw [if_neg (by omega), if_neg (by omega), if_pos (by omega), if_pos (by omega), if_neg (by omega), if_neg (by omega), hA3])
end Go.Proofs.YtiapkblebbcfbaaGreat.Gl
/- The document's meter. -/
namespace Go.Proofs.YtiapkblebbcfbaaGreat.Gl
open Go.RowKit
set_option linter.unusedVariables false

/-- the block b holds the meter s -/
def MtIs (w : World) (b : Nat) (s : St) : Prop := ∃ fr : Nat × Nat, w.heap[b]? = some (.cells #[.int .i64 s.n, .int .i64 s.d, .int .i64 s.e] 82 (0, 0))
/-- all but block b is kept -/
structure But (b : Nat) (w w' : World) : Prop where
  os : w'.os = w.os
  tape : w'.tape = w.tape
  output : w'.output = w.output
  size : w.heap.size ≤ w'.heap.size
  block : ∀ k, k < w.heap.size → k ≠ b → w'.heap[k]? = w.heap[k]?
theorem But.refl (b : Nat) (w : World) : But b w w := ⟨rfl, rfl, rfl, Nat.le_refl _, fun _ _ _ => rfl⟩
theorem But.trans {b : Nat} {w w1 w2 : World} (h : But b w w1) (k : But b w1 w2) : But b w w2 :=
  ⟨k.os.trans h.os, k.tape.trans h.tape, k.output.trans h.output, Nat.le_trans h.size k.size, fun i hi hn => (k.block i (Nat.lt_of_lt_of_le hi h.size) hn).trans (h.block i hi hn)⟩
theorem But.of {b : Nat} {w w' : World} (h : Below w.heap.size w w') : But b w w' := ⟨h.os, h.tape, h.output, h.size, fun i hi _ => h.block i hi⟩
theorem But.below {b B : Nat} {w w' : World} (h : But b w w') (hb : B ≤ b) (hs : B ≤ w.heap.size) : Below B w w' :=
  ⟨h.os, h.tape, h.output, h.size, fun i hi => h.block i (by omega) (by omega)⟩
theorem But.set {b : Nat} {w w' : World} (h : But b w w') (o : Nat) (v : Value) : But b w (w'.setCell ⟨b, o, none⟩ v) :=
  h.trans ⟨rfl, rfl, rfl, by simp [World.setCell], fun k hk hn => Below.heap_setCell _ _ _ _ hn⟩
theorem mt_cells {w : World} {b : Nat} {s : St} (h : MtIs w b s) : w.cell? ⟨b, 0, none⟩ = some (.int .i64 s.n) ∧ w.cell? ⟨b, 1, none⟩ = some (.int .i64 s.d) ∧ w.cell? ⟨b, 2, none⟩ = some (.int .i64 s.e) ∧ w.frozen? ⟨b, 0, none⟩ = false ∧ w.frozen? ⟨b, 1, none⟩ = false ∧ w.frozen? ⟨b, 2, none⟩ = false := by
  obtain ⟨_, h⟩ := h
  simp [World.cell?, World.frozen?, h]
theorem mt3 {w : World} {b : Nat} {s s' : St} {x y z : Int} (h : MtIs w b s) (h0 : x = (s'.n : Int)) (h1 : y = (s'.d : Int)) (h2 : z = (s'.e : Int)) : MtIs (((w.setCell ⟨b, 0, none⟩ (.int .i64 x)).setCell ⟨b, 1, none⟩ (.int .i64 y)).setCell ⟨b, 2, none⟩ (.int .i64 z)) b s' := by
  obtain ⟨fr, h⟩ := h
  subst h0; subst h1; subst h2
  refine ⟨fr, ?_⟩
  simp [World.setCell, Array.getElem?_modify, h]
theorem mt2 {w : World} {b : Nat} {s s' : St} {x y : Int} (h : MtIs w b s) (h0 : x = (s'.n : Int)) (h1 : y = (s'.d : Int)) (h2 : s.e = s'.e) : MtIs ((w.setCell ⟨b, 0, none⟩ (.int .i64 x)).setCell ⟨b, 1, none⟩ (.int .i64 y)) b s' := by
  obtain ⟨fr, h⟩ := h
  subst h0; subst h1
  refine ⟨fr, ?_⟩
  simp [World.setCell, Array.getElem?_modify, h, h2]
theorem But.s3 (b : Nat) (w : World) (x y z : Value) : But b w (((w.setCell ⟨b, 0, none⟩ x).setCell ⟨b, 1, none⟩ y).setCell ⟨b, 2, none⟩ z) := (((But.refl b w).set 0 x).set 1 y).set 2 z
theorem But.s2 (b : Nat) (w : World) (x y : Value) : But b w ((w.setCell ⟨b, 0, none⟩ x).setCell ⟨b, 1, none⟩ y) := ((But.refl b w).set 0 x).set 1 y
set_option maxHeartbeats 1000000 in
theorem rnode_at (b dp : Nat) (good : Bool) (s : St) (w : World) (hM : MtIs w b s) (hn : s.n ≤ 1000) (hd : s.d ≤ 1000) (hdp : dp ≤ 1000) :
    Calls Tryz.prog 67 #[.pointer (some ⟨b, 0, none⟩), .int .i64 dp, .bool good] w fun e w' => e = .returned (.tuple #[]) ∧ MtIs w' b (s.node dp good) ∧ But b w w' := by
  obtain ⟨c0, c1, c2, f0, f1, f2⟩ := mt_cells hM
  by_cases h1 : 500 < s.n + 1
  · have k1 : (500 : Int) < (s.n : Int) + 1 := by omega
    have HE : Hid ((s.node dp good).e = 73) := by show _ = _; unfold St.node; dsimp only; rw [if_pos h1]
    go_enter Tryz.func67, Tryz.ntmps67
    go_wp2
    all_goals
      go_end0
      refine ⟨rfl, mt3 hM ?_ ?_ ?_, But.s3 _ _ _ _ _⟩
      · show _ = ((s.n + 1 : Nat) : Int); omega
      · show _ = ((max s.d dp : Nat) : Int); omega
      · rw [HE.out]; rfl
  · have k1 : decide ((500 : Int) < (s.n : Int) + 1) = false := decide_eq_false (by omega)
    by_cases h2 : 40 < dp
    · have k2 : (40 : Int) < (dp : Int) := by omega
      have HE : Hid ((s.node dp good).e = 72) := by show _ = _; unfold St.node; dsimp only; rw [if_neg h1, if_pos h2]
      go_enter Tryz.func67, Tryz.ntmps67
      go_wp2
      all_goals
        go_end0
        refine ⟨rfl, mt3 hM ?_ ?_ ?_, But.s3 _ _ _ _ _⟩
        · show _ = ((s.n + 1 : Nat) : Int); omega
        · show _ = ((max s.d dp : Nat) : Int); omega
        · rw [HE.out]; rfl
    · have k2 : decide ((40 : Int) < (dp : Int)) = false := decide_eq_false (by omega)
      cases good with
      | true =>
        have HE : Hid (s.e = (s.node dp true).e) := by show _ = _; unfold St.node; dsimp only; rw [if_neg h1, if_neg h2, if_pos rfl]
        go_enter Tryz.func67, Tryz.ntmps67
        go_wp2
        all_goals
          go_end0
          refine ⟨rfl, mt2 hM ?_ ?_ HE.out, But.s2 _ _ _ _⟩
          · show _ = ((s.n + 1 : Nat) : Int); omega
          · show _ = ((max s.d dp : Nat) : Int); omega
      | false =>
        have HE : Hid ((s.node dp false).e = 3) := by show _ = _; unfold St.node; dsimp only; rw [if_neg h1, if_neg h2, if_neg (by decide)]
        go_enter Tryz.func67, Tryz.ntmps67
        go_wp2
        all_goals
          go_end0
          refine ⟨rfl, mt3 hM ?_ ?_ ?_, But.s3 _ _ _ _ _⟩
          · show _ = ((s.n + 1 : Nat) : Int); omega
          · show _ = ((max s.d dp : Nat) : Int); omega
          · rw [HE.out]; rfl
end Go.Proofs.YtiapkblebbcfbaaGreat.Gl
/- The document's term: a term's nodes. -/
namespace Go.Proofs.YtiapkblebbcfbaaGreat.Gl
open Go.RowKit
set_option linter.unusedVariables false

structure Inv (s : St) : Prop where
  n : s.n ≤ 501
  d : s.d ≤ 41
  m : s.e = 0 → s.n ≤ 500
theorem node_inv {s : St} {dp : Nat} {g : Bool} (h : Inv s) (h0 : s.e = 0) (hd : dp ≤ 41) : Inv (s.node dp g) ∧ ((s.node dp g).e = 0 → dp ≤ 40) := by
  have hn := h.m h0
  have hdd := h.d
  unfold St.node
  refine ⟨⟨(show s.n + 1 ≤ 501 by omega), (show max s.d dp ≤ 41 by omega), fun he => ?_⟩, fun he => ?_⟩
  · show s.n + 1 ≤ 500
    dsimp only at he
    split at he
    · cases he
    · omega
  · dsimp only at he
    split at he
    · cases he
    · split at he
      · cases he
      · omega
theorem meterTL_inv {nm : ByteArray → Bool} {l : List Tm} (hl : ∀ t ∈ l, ∀ dp s, Inv s → s.e = 0 → dp ≤ 41 → Inv (meterT nm t dp s)) (dp : Nat) : ∀ s, Inv s → (s.e = 0 → dp ≤ 41) → Inv (meterTL nm l dp s) := by
  induction l with
  | nil => intro s h _; rw [meterTL]; exact h
  | cons t r ih =>
    intro s h hd
    rw [meterTL]
    split
    · rename_i h0
      exact ih (fun u hu => hl u (List.mem_cons_of_mem _ hu)) _ (hl t (List.mem_cons_self ..) dp s h h0 (hd h0)) (fun _ => hd h0)
    · exact h
theorem meterT_inv (nm : ByteArray → Bool) : ∀ t dp s, Inv s → s.e = 0 → dp ≤ 41 → Inv (meterT nm t dp s) := by
  refine Tm.ind (fun o n x a ih dp s h h0 hd => ?_)
  rw [meterT]
  obtain ⟨h1, h2⟩ := node_inv (g := wellT nm (.mk o n x a)) h h0 hd
  exact meterTL_inv ih (dp + 1) _ h1 (fun he => by have := h2 he; omega)
theorem meterFL_inv {nm : ByteArray → Bool} {l : List Fm} (hl : ∀ t ∈ l, ∀ dp s, Inv s → s.e = 0 → dp ≤ 41 → Inv (meterF nm t dp s)) (dp : Nat) : ∀ s, Inv s → (s.e = 0 → dp ≤ 41) → Inv (meterFL nm l dp s) := by
  induction l with
  | nil => intro s h _; rw [meterFL]; exact h
  | cons t r ih =>
    intro s h hd
    rw [meterFL]
    split
    · rename_i h0
      exact ih (fun u hu => hl u (List.mem_cons_of_mem _ hu)) _ (hl t (List.mem_cons_self ..) dp s h h0 (hd h0)) (fun _ => hd h0)
    · exact h
theorem meterF_inv (nm : ByteArray → Bool) : ∀ f dp s, Inv s → s.e = 0 → dp ≤ 41 → Inv (meterF nm f dp s) := by
  refine Fm.ind (fun o x m t a ih dp s h h0 hd => ?_)
  rw [meterF]
  obtain ⟨h1, h2⟩ := node_inv (g := wellF nm (.mk o x m t a)) h h0 hd
  have h3 := meterTL_inv (nm := nm) (l := t) (fun u _ => meterT_inv nm u) (dp + 1) _ h1 (fun he => by have := h2 he; omega)
  refine meterFL_inv ih (dp + 1) _ h3 (fun he => ?_)
  have : (s.node dp (wellF nm (.mk o x m t a))).e = 0 := Decidable.byContradiction (fun hc => by rw [meterTL_err _ _ _ _ hc] at he; exact hc he)
  have := h2 this
  omega
theorem mt_keep {w w' : World} {b : Nat} {s : St} (h : MtIs w b s) (hb : Below w.heap.size w w') : MtIs w' b s := by
  obtain ⟨fr, h⟩ := h
  exact ⟨fr, (hb.block b (Array.getElem?_eq_some_iff.1 h).1).trans h⟩
theorem mt_lt {w : World} {b : Nat} {s : St} (h : MtIs w b s) : b < w.heap.size := by
  obtain ⟨fr, h⟩ := h
  exact (Array.getElem?_eq_some_iff.1 h).1
theorem But.cell {b : Nat} {w w' : World} (h : But b w w') {g o : Nat} (hg : g < w.heap.size) (hn : g ≠ b) : w'.cell? ⟨g, o, none⟩ = w.cell? ⟨g, o, none⟩ := World.cell?_of_block (w := w) (h.block g hg hn)
set_option maxHeartbeats 2000000 in
theorem rterm_at (W : World) (b : Nat) (hb : W.heap.size ≤ b) : ∀ t v dp s w, TmV W t v → Below W.heap.size W w → MtIs w b s → Inv s → s.e = 0 → dp ≤ 41 →
    Calls Tryz.prog 39 #[.pointer (some ⟨b, 0, none⟩), v, .int .i64 (dp : Nat)] w fun e w' => e = .returned (.tuple #[]) ∧ MtIs w' b (meterT nmB t dp s) ∧ But b w w' := by
  refine Tm.ind (fun o n x a ih v dp s w hv hW hM hI h0 hd => ?_)
  have WL : Hid (∀ w, Calls Tryz.prog 68 #[v] w fun e w' => e = .returned (.bool (wellT nmB (.mk o n x a))) ∧ Below w.heap.size w w') := fun w => rwellT_at W _ v w hv
  rw [meterT]
  obtain ⟨c0, c1, c2, c3, rfl, hr⟩ := hv
  rw [RdT] at hr
  obtain ⟨rfl, rfl, rfl, hbd, ao, cap, rfl, hlc, hcz, hL⟩ := hr
  generalize hg : wellT nmB (.mk o n x a) = good at *
  obtain ⟨hI1, hI2⟩ := node_inv (g := good) hI h0 hd
  have ND : Hid (∀ w, MtIs w b s → Calls Tryz.prog 67 #[.pointer (some ⟨b, 0, none⟩), .int .i64 (dp : Nat), .bool good] w fun e w' => e = .returned (.tuple #[]) ∧ MtIs w' b (s.node dp good) ∧ But b w w') := fun w h => rnode_at b dp good s w h (by have := hI.n; omega) (by have := hI.d; omega) (by omega)
  have IH : Hid (∀ t ∈ a, ∀ v dp s w, TmV W t v → Below W.heap.size W w → MtIs w b s → Inv s → s.e = 0 → dp ≤ 41 →
    Calls Tryz.prog 39 #[.pointer (some ⟨b, 0, none⟩), v, .int .i64 (dp : Nat)] w fun e w' => e = .returned (.tuple #[]) ∧ MtIs w' b (meterT nmB t dp s) ∧ But b w w') := ih
  generalize hs1 : s.node dp good = s1 at *
  have hbw := mt_lt hM
  have hMa := mt_keep hM (bta0 w (.cells #[.int .i64 o, .int .i64 n, .string x, .slice ao a.length cap] 25))
  clear hs1 hg ih
  go_enter Tryz.func39, Tryz.ntmps39
  go_wp2_with (first
    | (go_at_call 68; refine (WL.out _).mono ?_; rintro e w2 ⟨rfl, hB2⟩; have hM2 := mt_keep hMa hB2)
    | (go_at_call 67; refine (ND.out _ hM2).mono ?_; rintro e w3 ⟨rfl, hM3, hU3⟩))
  have hU : But b w w3 := (But.of (ba2 hB2)).trans hU3
  obtain ⟨_, _, hd2, _⟩ := res_keep hB2
  have hsz2 : w.heap.size < w2.heap.size := by have := hB2.size; simp at this; omega
  have hbox : w3.cell? ⟨w.heap.size, 3, none⟩ = some (.slice ao a.length cap) := (hU3.cell hsz2 (by omega)).trans (hd2 3)
  have hsz3 : w.heap.size < w3.heap.size := Nat.lt_of_lt_of_le hsz2 hU3.size
  have hWs := hW.size
  clear WL ND hM hMa hB2 hM2 hU3 hd2 hI h0
  go_loopw [6] (fun i wr => ∃ (k : Nat) (st : St), k ≤ a.length ∧ i = .int .i64 k ∧ MtIs wr b st ∧ Inv st ∧ (st.e = 0 → dp ≤ 40) ∧ But b w wr ∧ wr.cell? ⟨w.heap.size, 3, none⟩ = some (.slice ao a.length cap) ∧ w.heap.size < wr.heap.size ∧ Hid (meterTL nmB (a.drop k) (dp + 1) st = meterTL nmB a (dp + 1) s1)) (fun i _ => a.length - (intOf i).toNat)
  case atStart => exact ⟨0, s1, Nat.zero_le _, rfl, hM3, hI1, hI2, hU, hbox, hsz3, rfl⟩
  case round =>
    obtain ⟨k, st, hk, rfl, hMr, hIr, hIe, hUr, hbr, hsr, HR⟩ := hrel
    obtain ⟨m0, m1, m2, n0, n1, n2⟩ := mt_cells hMr
    by_cases hlt : k < a.length
    · by_cases he : st.e = 0
      · have hWr : Below W.heap.size W wr := hW.trans (hUr.below hb hWs)
        obtain ⟨g, of, d0, d1, d2, d3, rfl, hg, q0, q1, q2, q3, hrd⟩ := hL.get k hlt
        rw [Nat.zero_add] at q0 q1 q2 q3
        have p0 := (hWr.cell (p := ⟨g, of + k * 4, none⟩) hg).trans q0
        have p1 := (hWr.cell (p := ⟨g, of + k * 4 + 1, none⟩) hg).trans q1
        have p2 := (hWr.cell (p := ⟨g, of + k * 4 + 2, none⟩) hg).trans q2
        have p3 := (hWr.cell (p := ⟨g, of + k * 4 + 3, none⟩) hg).trans q3
        have RC : Hid (Calls Tryz.prog 39 #[.pointer (some ⟨b, 0, none⟩), .agg #[d0, d1, d2, d3], .int .i64 ((dp : Int) + 1)] wr fun e w' => e = .returned (.tuple #[]) ∧ MtIs w' b (meterT nmB a[k] (dp + 1) st) ∧ But b wr w') :=
          IH.out a[k] (List.getElem_mem hlt) _ (dp + 1) st wr ⟨_, _, _, _, rfl, hrd⟩ hWr hMr hIr he (by have := hIe he; omega)
        have HN : Hid (meterTL nmB (a.drop (k + 1)) (dp + 1) (meterT nmB a[k] (dp + 1) st) = meterTL nmB a (dp + 1) s1) := by
          have := HR.out
          rw [List.drop_eq_getElem_cons hlt, meterTL, if_pos he] at this
          exact this
        have hIn : Inv (meterT nmB a[k] (dp + 1) st) := meterT_inv nmB _ _ _ hIr he (by have := hIe he; omega)
        have hdp : dp ≤ 40 := hIe he
        have he' : ((st.e : Int) == 0) = true := by simp; omega
        generalize meterT nmB a[k] (dp + 1) st = st2 at *
        clear IH HR q0 q1 q2 q3 hrd
        go_wp2_with (go_at_call 39; refine RC.out.mono ?_; rintro e w5 ⟨rfl, hM5, hU5⟩)
        go_roundw
        case rel => exact ⟨k + 1, st2, by omega, by go_num, hM5, hIn, fun _ => hdp, hUr.trans hU5, (hU5.cell hsr (by omega)).trans hbr, Nat.lt_of_lt_of_le hsr hU5.size, HN⟩
        case measure => simp [intOf]; omega
      · have he' : ((st.e : Int) == 0) = false := by simp; omega
        have HE : Hid (st = meterTL nmB a (dp + 1) s1) := by
          have := HR.out
          rw [meterTL_err _ _ _ _ he] at this
          exact this
        clear IH HR
        go_wp2
        go_end0
        exact ⟨rfl, by rw [← HE.out]; exact hMr, hUr⟩
    · obtain rfl : k = a.length := by omega
      have HE : Hid (st = meterTL nmB a (dp + 1) s1) := by
        have := HR.out
        rw [List.drop_of_length_le (Nat.le_refl _), meterTL] at this
        exact this
      clear IH HR
      go_wp2
      go_end0
      exact ⟨rfl, by rw [← HE.out]; exact hMr, hUr⟩
end Go.Proofs.YtiapkblebbcfbaaGreat.Gl
/- The document's formula, Measure, Check. -/
namespace Go.Proofs.YtiapkblebbcfbaaGreat.Gl
open Go.RowKit
set_option linter.unusedVariables false

set_option maxHeartbeats 4000000 in
theorem rformula_at (W : World) (b : Nat) (hb : W.heap.size ≤ b) : ∀ f v dp s w, FmV W f v → Below W.heap.size W w → MtIs w b s → Inv s → s.e = 0 → dp ≤ 41 →
    Calls Tryz.prog 73 #[.pointer (some ⟨b, 0, none⟩), v, .int .i64 (dp : Nat)] w fun e w' => e = .returned (.tuple #[]) ∧ MtIs w' b (meterF nmB f dp s) ∧ But b w w' := by
  refine Fm.ind (fun o x m t a ih v dp s w hv hW hM hI h0 hd => ?_)
  have WL : Hid (∀ w, Calls Tryz.prog 90 #[v] w fun e w' => e = .returned (.bool (wellF nmB (.mk o x m t a))) ∧ Below w.heap.size w w') := fun w => rwellF_at W _ v w hv
  rw [meterF]
  obtain ⟨c0, c1, c2, c3, c4, rfl, hr⟩ := hv
  rw [RdF] at hr
  obtain ⟨rfl, rfl, rfl, hbd, ⟨bo, ct, rfl, hlt1, hct, hLT⟩, ao, ca, rfl, hlc, hcz, hLA⟩ := hr
  generalize hg : wellF nmB (.mk o x m t a) = good at *
  obtain ⟨hI1, hI2⟩ := node_inv (g := good) hI h0 hd
  have ND : Hid (∀ w, MtIs w b s → Calls Tryz.prog 67 #[.pointer (some ⟨b, 0, none⟩), .int .i64 (dp : Nat), .bool good] w fun e w' => e = .returned (.tuple #[]) ∧ MtIs w' b (s.node dp good) ∧ But b w w') := fun w h => rnode_at b dp good s w h (by have := hI.n; omega) (by have := hI.d; omega) (by omega)
  have IH : Hid (∀ f ∈ a, ∀ v dp s w, FmV W f v → Below W.heap.size W w → MtIs w b s → Inv s → s.e = 0 → dp ≤ 41 →
    Calls Tryz.prog 73 #[.pointer (some ⟨b, 0, none⟩), v, .int .i64 (dp : Nat)] w fun e w' => e = .returned (.tuple #[]) ∧ MtIs w' b (meterF nmB f dp s) ∧ But b w w') := ih
  have TH : Hid (∀ t v dp s w, TmV W t v → Below W.heap.size W w → MtIs w b s → Inv s → s.e = 0 → dp ≤ 41 →
    Calls Tryz.prog 39 #[.pointer (some ⟨b, 0, none⟩), v, .int .i64 (dp : Nat)] w fun e w' => e = .returned (.tuple #[]) ∧ MtIs w' b (meterT nmB t dp s) ∧ But b w w') := rterm_at W b hb
  generalize hs1 : s.node dp good = s1 at *
  obtain ⟨S, hS⟩ : ∃ S, meterTL nmB t (dp + 1) s1 = S := ⟨_, rfl⟩
  rw [hS]
  have HS : Hid (meterTL nmB t (dp + 1) s1 = S) := hS
  have hIS : Inv S := by rw [← hS]; exact meterTL_inv (fun u _ => meterT_inv nmB u) (dp + 1) _ hI1 (fun he => by have := hI2 he; omega)
  have hIeS : S.e = 0 → dp ≤ 40 := fun he => hI2 (Decidable.byContradiction (fun hc => by rw [← hS, meterTL_err _ _ _ _ hc] at he; exact hc he))
  have hbw := mt_lt hM
  have hMa := mt_keep hM (bta0 w (.cells #[.int .i64 o, .string x, .int .i64 m, .slice bo t.length ct, .slice ao a.length ca] 41))
  clear hs1 hg ih hS
  go_enter Tryz.func73, Tryz.ntmps73
  go_wp2_with (first
    | (go_at_call 90; refine (WL.out _).mono ?_; rintro e w2 ⟨rfl, hB2⟩; have hM2 := mt_keep hMa hB2)
    | (go_at_call 67; refine (ND.out _ hM2).mono ?_; rintro e w3 ⟨rfl, hM3, hU3⟩))
  have hU : But b w w3 := (But.of (ba2 hB2)).trans hU3
  obtain ⟨_, _, hd2, _⟩ := res_keep hB2
  have hsz2 : w.heap.size < w2.heap.size := by have := hB2.size; simp at this; omega
  have hbox3 : w3.cell? ⟨w.heap.size, 3, none⟩ = some (.slice bo t.length ct) := (hU3.cell hsz2 (by omega)).trans (hd2 3)
  have hbox4 : w3.cell? ⟨w.heap.size, 4, none⟩ = some (.slice ao a.length ca) := (hU3.cell hsz2 (by omega)).trans (hd2 4)
  have hsz3 : w.heap.size < w3.heap.size := Nat.lt_of_lt_of_le hsz2 hU3.size
  have hWs := hW.size
  clear WL ND hM hMa hB2 hM2 hU3 hd2 hI h0
  go_loopw [6] (fun i wr => ∃ (k : Nat) (st : St), k ≤ t.length ∧ i = .int .i64 k ∧ MtIs wr b st ∧ Inv st ∧ (st.e = 0 → dp ≤ 40) ∧ But b w wr ∧ wr.cell? ⟨w.heap.size, 3, none⟩ = some (.slice bo t.length ct) ∧ wr.cell? ⟨w.heap.size, 4, none⟩ = some (.slice ao a.length ca) ∧ w.heap.size < wr.heap.size ∧ Hid (meterTL nmB (t.drop k) (dp + 1) st = S)) (fun i _ => t.length - (intOf i).toNat)
  case atStart => exact ⟨0, s1, Nat.zero_le _, rfl, hM3, hI1, hI2, hU, hbox3, hbox4, hsz3, HS⟩
  case round =>
    obtain ⟨k, st, hk, rfl, hMr, hIr, hIe, hUr, hbr3, hbr4, hsr, HR⟩ := hrel
    obtain ⟨m0, m1, m2, n0, n1, n2⟩ := mt_cells hMr
    by_cases hlt : k < t.length
    · by_cases he : st.e = 0
      · have hWr : Below W.heap.size W wr := hW.trans (hUr.below hb hWs)
        obtain ⟨g, of, d0, d1, d2, d3, rfl, hg, q0, q1, q2, q3, hrd⟩ := hLT.get k hlt
        rw [Nat.zero_add] at q0 q1 q2 q3
        have p0 := (hWr.cell (p := ⟨g, of + k * 4, none⟩) hg).trans q0
        have p1 := (hWr.cell (p := ⟨g, of + k * 4 + 1, none⟩) hg).trans q1
        have p2 := (hWr.cell (p := ⟨g, of + k * 4 + 2, none⟩) hg).trans q2
        have p3 := (hWr.cell (p := ⟨g, of + k * 4 + 3, none⟩) hg).trans q3
        have RC : Hid (Calls Tryz.prog 39 #[.pointer (some ⟨b, 0, none⟩), .agg #[d0, d1, d2, d3], .int .i64 ((dp : Int) + 1)] wr fun e w' => e = .returned (.tuple #[]) ∧ MtIs w' b (meterT nmB t[k] (dp + 1) st) ∧ But b wr w') :=
          TH.out t[k] _ (dp + 1) st wr ⟨_, _, _, _, rfl, hrd⟩ hWr hMr hIr he (by have := hIe he; omega)
        have HN : Hid (meterTL nmB (t.drop (k + 1)) (dp + 1) (meterT nmB t[k] (dp + 1) st) = S) := by
          have := HR.out
          rw [List.drop_eq_getElem_cons hlt, meterTL, if_pos he] at this
          exact this
        have hIn : Inv (meterT nmB t[k] (dp + 1) st) := meterT_inv nmB _ _ _ hIr he (by have := hIe he; omega)
        have hdp : dp ≤ 40 := hIe he
        have he' : ((st.e : Int) == 0) = true := by simp; omega
        generalize meterT nmB t[k] (dp + 1) st = st2 at *
        clear IH TH HR q0 q1 q2 q3 hrd
        go_wp2_with (go_at_call 39; refine RC.out.mono ?_; rintro e w5 ⟨rfl, hM5, hU5⟩)
        go_roundw
        case rel => exact ⟨k + 1, st2, by omega, by go_num, hM5, hIn, fun _ => hdp, hUr.trans hU5, (hU5.cell hsr (by omega)).trans hbr3, (hU5.cell hsr (by omega)).trans hbr4, Nat.lt_of_lt_of_le hsr hU5.size, HN⟩
        case measure => simp [intOf]; omega
      · have he' : ((st.e : Int) == 0) = false := by simp; omega
        obtain rfl : S = st := by
          have := HR.out
          rw [meterTL_err _ _ _ _ he] at this
          exact this.symm
        have hMS := hMr
        clear TH HR HS hM3 hU hbox3 hbox4 hsz3
        go_wp2
        obtain ⟨wv, hwv⟩ : ∃ wv, wv = wr := ⟨_, rfl⟩
        subst hwv
        go_loopw [7] (fun i wr => ∃ (k : Nat) (st : St), k ≤ a.length ∧ i = .int .i64 k ∧ MtIs wr b st ∧ Inv st ∧ (st.e = 0 → dp ≤ 40) ∧ But b w wr ∧ wr.cell? ⟨w.heap.size, 4, none⟩ = some (.slice ao a.length ca) ∧ w.heap.size < wr.heap.size ∧ Hid (meterFL nmB (a.drop k) (dp + 1) st = meterFL nmB a (dp + 1) S)) (fun i _ => a.length - (intOf i).toNat)
        case atStart => exact ⟨0, S, Nat.zero_le _, rfl, hMS, hIS, hIeS, hUr, hbr4, hsr, rfl⟩
        case round =>
          obtain ⟨k, st, hk, rfl, hMr, hIr, hIe, hUr, hbr, hsr, HR⟩ := hrel
          obtain ⟨m0, m1, m2, n0, n1, n2⟩ := mt_cells hMr
          by_cases hlt : k < a.length
          · by_cases he : st.e = 0
            · have hWr : Below W.heap.size W wr := hW.trans (hUr.below hb hWs)
              obtain ⟨g, of, d0, d1, d2, d3, d4, rfl, hg, q0, q1, q2, q3, q4, hrd⟩ := hLA.get k hlt
              rw [Nat.zero_add] at q0 q1 q2 q3 q4
              have p0 := (hWr.cell (p := ⟨g, of + k * 5, none⟩) hg).trans q0
              have p1 := (hWr.cell (p := ⟨g, of + k * 5 + 1, none⟩) hg).trans q1
              have p2 := (hWr.cell (p := ⟨g, of + k * 5 + 2, none⟩) hg).trans q2
              have p3 := (hWr.cell (p := ⟨g, of + k * 5 + 3, none⟩) hg).trans q3
              have p4 := (hWr.cell (p := ⟨g, of + k * 5 + 4, none⟩) hg).trans q4
              have RC : Hid (Calls Tryz.prog 73 #[.pointer (some ⟨b, 0, none⟩), .agg #[d0, d1, d2, d3, d4], .int .i64 ((dp : Int) + 1)] wr fun e w' => e = .returned (.tuple #[]) ∧ MtIs w' b (meterF nmB a[k] (dp + 1) st) ∧ But b wr w') :=
                IH.out a[k] (List.getElem_mem hlt) _ (dp + 1) st wr ⟨_, _, _, _, _, rfl, hrd⟩ hWr hMr hIr he (by have := hIe he; omega)
              have HN : Hid (meterFL nmB (a.drop (k + 1)) (dp + 1) (meterF nmB a[k] (dp + 1) st) = meterFL nmB a (dp + 1) S) := by
                have := HR.out
                rw [List.drop_eq_getElem_cons hlt, meterFL, if_pos he] at this
                exact this
              have hIn : Inv (meterF nmB a[k] (dp + 1) st) := meterF_inv nmB _ _ _ hIr he (by have := hIe he; omega)
              have hdp : dp ≤ 40 := hIe he
              have he' : ((st.e : Int) == 0) = true := by simp; omega
              generalize meterF nmB a[k] (dp + 1) st = st2 at *
              clear IH HR q0 q1 q2 q3 q4 hrd
              go_wp2_with (go_at_call 73; refine RC.out.mono ?_; rintro e w5 ⟨rfl, hM5, hU5⟩)
              go_roundw
              case rel => exact ⟨k + 1, st2, by omega, by go_num, hM5, hIn, fun _ => hdp, hUr.trans hU5, (hU5.cell hsr (by omega)).trans hbr, Nat.lt_of_lt_of_le hsr hU5.size, HN⟩
              case measure => simp [intOf]; omega
            · have he' : ((st.e : Int) == 0) = false := by simp; omega
              have HE : Hid (st = meterFL nmB a (dp + 1) S) := by
                have := HR.out
                rw [meterFL_err _ _ _ _ he] at this
                exact this
              clear IH HR
              go_wp2
              go_end0
              exact ⟨rfl, by rw [← HE.out]; exact hMr, hUr⟩
          · obtain rfl : k = a.length := by omega
            have HE : Hid (st = meterFL nmB a (dp + 1) S) := by
              have := HR.out
              rw [List.drop_of_length_le (Nat.le_refl _), meterFL] at this
              exact this
            clear IH HR
            go_wp2
            go_end0
            exact ⟨rfl, by rw [← HE.out]; exact hMr, hUr⟩
    · obtain rfl : k = t.length := by omega
      obtain rfl : S = st := by
        have := HR.out
        rw [List.drop_of_length_le (Nat.le_refl _), meterTL] at this
        exact this.symm
      have hMS := hMr
      clear TH HR HS hM3 hU hbox3 hbox4 hsz3
      go_wp2
      obtain ⟨wv, hwv⟩ : ∃ wv, wv = wr := ⟨_, rfl⟩
      subst hwv
      go_loopw [7] (fun i wr => ∃ (k : Nat) (st : St), k ≤ a.length ∧ i = .int .i64 k ∧ MtIs wr b st ∧ Inv st ∧ (st.e = 0 → dp ≤ 40) ∧ But b w wr ∧ wr.cell? ⟨w.heap.size, 4, none⟩ = some (.slice ao a.length ca) ∧ w.heap.size < wr.heap.size ∧ Hid (meterFL nmB (a.drop k) (dp + 1) st = meterFL nmB a (dp + 1) S)) (fun i _ => a.length - (intOf i).toNat)
      case atStart => exact ⟨0, S, Nat.zero_le _, rfl, hMS, hIS, hIeS, hUr, hbr4, hsr, rfl⟩
      case round =>
        obtain ⟨k, st, hk, rfl, hMr, hIr, hIe, hUr, hbr, hsr, HR⟩ := hrel
        obtain ⟨m0, m1, m2, n0, n1, n2⟩ := mt_cells hMr
        by_cases hlt : k < a.length
        · by_cases he : st.e = 0
          · have hWr : Below W.heap.size W wr := hW.trans (hUr.below hb hWs)
            obtain ⟨g, of, d0, d1, d2, d3, d4, rfl, hg, q0, q1, q2, q3, q4, hrd⟩ := hLA.get k hlt
            rw [Nat.zero_add] at q0 q1 q2 q3 q4
            have p0 := (hWr.cell (p := ⟨g, of + k * 5, none⟩) hg).trans q0
            have p1 := (hWr.cell (p := ⟨g, of + k * 5 + 1, none⟩) hg).trans q1
            have p2 := (hWr.cell (p := ⟨g, of + k * 5 + 2, none⟩) hg).trans q2
            have p3 := (hWr.cell (p := ⟨g, of + k * 5 + 3, none⟩) hg).trans q3
            have p4 := (hWr.cell (p := ⟨g, of + k * 5 + 4, none⟩) hg).trans q4
            have RC : Hid (Calls Tryz.prog 73 #[.pointer (some ⟨b, 0, none⟩), .agg #[d0, d1, d2, d3, d4], .int .i64 ((dp : Int) + 1)] wr fun e w' => e = .returned (.tuple #[]) ∧ MtIs w' b (meterF nmB a[k] (dp + 1) st) ∧ But b wr w') :=
              IH.out a[k] (List.getElem_mem hlt) _ (dp + 1) st wr ⟨_, _, _, _, _, rfl, hrd⟩ hWr hMr hIr he (by have := hIe he; omega)
            have HN : Hid (meterFL nmB (a.drop (k + 1)) (dp + 1) (meterF nmB a[k] (dp + 1) st) = meterFL nmB a (dp + 1) S) := by
              have := HR.out
              rw [List.drop_eq_getElem_cons hlt, meterFL, if_pos he] at this
              exact this
            have hIn : Inv (meterF nmB a[k] (dp + 1) st) := meterF_inv nmB _ _ _ hIr he (by have := hIe he; omega)
            have hdp : dp ≤ 40 := hIe he
            have he' : ((st.e : Int) == 0) = true := by simp; omega
            generalize meterF nmB a[k] (dp + 1) st = st2 at *
            clear IH HR q0 q1 q2 q3 q4 hrd
            go_wp2_with (go_at_call 73; refine RC.out.mono ?_; rintro e w5 ⟨rfl, hM5, hU5⟩)
            go_roundw
            case rel => exact ⟨k + 1, st2, by omega, by go_num, hM5, hIn, fun _ => hdp, hUr.trans hU5, (hU5.cell hsr (by omega)).trans hbr, Nat.lt_of_lt_of_le hsr hU5.size, HN⟩
            case measure => simp [intOf]; omega
          · have he' : ((st.e : Int) == 0) = false := by simp; omega
            have HE : Hid (st = meterFL nmB a (dp + 1) S) := by
              have := HR.out
              rw [meterFL_err _ _ _ _ he] at this
              exact this
            clear IH HR
            go_wp2
            go_end0
            exact ⟨rfl, by rw [← HE.out]; exact hMr, hUr⟩
        · obtain rfl : k = a.length := by omega
          have HE : Hid (st = meterFL nmB a (dp + 1) S) := by
            have := HR.out
            rw [List.drop_of_length_le (Nat.le_refl _), meterFL] at this
            exact this
          clear IH HR
          go_wp2
          go_end0
          exact ⟨rfl, by rw [← HE.out]; exact hMr, hUr⟩
end Go.Proofs.YtiapkblebbcfbaaGreat.Gl
/- The document's Measure, Check; sameTerm. -/
namespace Go.Proofs.YtiapkblebbcfbaaGreat.Gl
open Go.RowKit
set_option linter.unusedVariables false

theorem heap3_new (w : World) (A B C : Obj) : (((w.alloc A).alloc B).alloc C).heap[w.heap.size + 2]? = some C := by
  have := heap_alloc_new ((w.alloc A).alloc B) C
  rwa [World.size_alloc, World.size_alloc] at this
theorem cell_newO (W : World) (vs : Array Value) (t : TypeId) (b : Nat) (hb : W.heap.size = b) (o : Nat) : (W.alloc (.cells vs t)).cell? ⟨b, o, none⟩ = vs[o]? := by
  subst hb; simp
theorem froz_newO (W : World) (vs : Array Value) (t : TypeId) (b : Nat) (hb : W.heap.size = b) (o : Nat) : (W.alloc (.cells vs t)).frozen? ⟨b, o, none⟩ = false := by
  subst hb; simp
theorem cell_mid (w : World) (A C : Obj) (x y z : Value) (t : TypeId) (o : Nat) : (((w.alloc A).alloc (.cells #[x, y, z] t)).alloc C).cell? ⟨w.heap.size + 1, o, none⟩ = #[x, y, z][o]? :=
  (World.cell?_of_block (heap_alloc_old _ _ (show w.heap.size + 1 < ((w.alloc A).alloc (.cells #[x, y, z] t)).heap.size by simp))).trans (cell_newO _ _ _ _ (by simp) o)
theorem froz_mid (w : World) (A C : Obj) (x y z : Value) (t : TypeId) (o : Nat) : (((w.alloc A).alloc (.cells #[x, y, z] t)).alloc C).frozen? ⟨w.heap.size + 1, o, none⟩ = false :=
  (World.frozen?_of_block (heap_alloc_old _ _ (show w.heap.size + 1 < ((w.alloc A).alloc (.cells #[x, y, z] t)).heap.size by simp))).trans (froz_newO _ _ _ _ (by simp) o)
set_option maxHeartbeats 1000000 in
theorem rmeasure_at (W : World) (f : Fm) (v : Value) (w : World) (hv : FmV W f v) (hW : Below W.heap.size W w) :
    Calls Tryz.prog 45 #[v] w fun e w' => e = .returned (.agg #[.int .i64 (meterF nmB f 1 ⟨0, 0, 0⟩).n, .int .i64 (meterF nmB f 1 ⟨0, 0, 0⟩).d, .int .i64 (chk nmB f)]) ∧ Below w.heap.size w w' := by
  obtain ⟨s, hs⟩ : ∃ s, meterF nmB f 1 ⟨0, 0, 0⟩ = s := ⟨_, rfl⟩
  have FH : Hid (∀ b w, W.heap.size ≤ b → Below W.heap.size W w → MtIs w b ⟨0, 0, 0⟩ → Calls Tryz.prog 73 #[.pointer (some ⟨b, 0, none⟩), v, .int .i64 1] w fun e w' => e = .returned (.tuple #[]) ∧ MtIs w' b s ∧ But b w w') := fun b w h1 h2 h3 => by
    have := rformula_at W b h1 f v 1 ⟨0, 0, 0⟩ w hv h2 h3 ⟨by decide, by decide, fun _ => by decide⟩ rfl (by decide)
    rwa [hs] at this
  unfold chk
  rw [hs]
  have hWs := hW.size
  obtain ⟨c0, c1, c2, c3, c4, rfl, _⟩ := hv
  clear hs
  go_enter Tryz.func45, Tryz.ntmps45
  go_wp2_with (fail)
  refine (FH.out (w.heap.size + 2) _ (by omega) (hW.trans ((bta (bta (bta0 _ _) _) _).mono hWs)) ⟨(0, 0), heap3_new _ _ _ _⟩).mono ?_
  rintro e w3 ⟨rfl, hM3, hU3⟩
  obtain ⟨m0, m1, m2, n0, n1, n2⟩ := mt_cells hM3
  have r0 := (hU3.cell (g := w.heap.size + 1) (o := 0) (by simp) (by omega)).trans (cell_mid _ _ _ _ _ _ _ 0)
  have r1 := (hU3.cell (g := w.heap.size + 1) (o := 1) (by simp) (by omega)).trans (cell_mid _ _ _ _ _ _ _ 1)
  have r2 := (hU3.cell (g := w.heap.size + 1) (o := 2) (by simp) (by omega)).trans (cell_mid _ _ _ _ _ _ _ 2)
  have z : ∀ o, w3.frozen? ⟨w.heap.size + 1, o, none⟩ = false := fun o => (World.frozen?_of_block (hU3.block (w.heap.size + 1) (by simp) (by omega))).trans (froz_mid _ _ _ _ _ _ _ o)
  have hB : Below w.heap.size w w3 := (bta (bta (bta0 w _) _) _).trans (hU3.below (by omega) (by simp; omega))
  clear FH hU3
  go_wp2
  refine bodyPost_ret (v := .agg #[.int .i64 s.n, .int .i64 s.d, .int .i64 s.e]) (by simp [results, Tryz.results45, go_sem, r0, r1, r2]) rfl ⟨rfl, ?_⟩
  exact ((hB.setCell (by simp) _).setCell (by simp) _).setCell (by simp) _
set_option maxRecDepth 100000 in
theorem rcheck_at (W : World) (f : Fm) (v : Value) (w : World) (hv : FmV W f v) (hW : Below W.heap.size W w) :
    Calls Tryz.prog 24 #[v] w fun e w' => e = .returned (.int .i64 (chk nmB f)) ∧ Below w.heap.size w w' := by
  have ME : Hid (∀ w, Below W.heap.size W w → Calls Tryz.prog 45 #[v] w fun e w' => e = .returned (.agg #[.int .i64 (meterF nmB f 1 ⟨0, 0, 0⟩).n, .int .i64 (meterF nmB f 1 ⟨0, 0, 0⟩).d, .int .i64 (chk nmB f)]) ∧ Below w.heap.size w w') := fun w h => rmeasure_at W f v w hv h
  have hWs := hW.size
  obtain ⟨c0, c1, c2, c3, c4, rfl, _⟩ := hv
  generalize meterF nmB f 1 ⟨0, 0, 0⟩ = s at *
  generalize chk nmB f = c at *
  have hWa := hW.trans ((bta0 w (.cells #[c0, c1, c2, c3, c4] 41)).mono hWs)
  go_enter Tryz.func24, Tryz.ntmps24
  go_wp2_with (fail)
  refine (ME.out _ hWa).mono ?_
  rintro e w3 ⟨rfl, hB3⟩
  clear ME
  have hfl : ∀ w (x y z : Value), (Instr.field 82 (.agg #[x, y, z]) 2).run Tryz.prog w = .ok z w := fun w x y z => by kernel_rfl
  go_wp2
  go_ret
  exact ⟨rfl, ba2 hB3⟩
end Go.Proofs.YtiapkblebbcfbaaGreat.Gl
