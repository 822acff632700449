/- The document's wellTerm. -/
import Derived.Test.YtabfhdmcljdjhaaGreatDoorTrB
namespace Go.Proofs.YtabfhdmcljdjhaaGreatDoor.Gl
open Go.RowKit
set_option linter.unusedVariables false

theorem bta0 (w : World) (o : Obj) : Below w.heap.size w (w.alloc o) := (Below.refl _ _).alloc (Nat.le_refl _) o
set_option maxHeartbeats 1000000 in
theorem rwt0 (n : Int) (x : ByteArray) (ao : Option Addr) (len cap : Nat) (w : World) (hx : x.size ≤ 9223372036854775807) :
    Calls Tryz.prog 49 #[.agg #[.int .i64 0, .int .i64 n, .string x, .slice ao len cap]] w fun e w' => e = .returned (.bool (wT nmB 0 n x len)) ∧ Below w.heap.size w w' := by
  cases hx0 : (x.toList == []) with
  | false =>
    have HE : Hid (wT nmB 0 n x len = false) := by show _ = _; simp [wT, hx0]
    go_enter Tryz.func49, Tryz.ntmps49
    go_wp2
    go_ret
    exact ⟨retb HE.out.symm, bta0 _ _⟩
  | true =>
    by_cases hl : len = 0
    · subst hl
      cases hd : decide (0 ≤ n) with
      | true =>
        have HE : Hid (wT nmB 0 n x 0 = true) := by show _ = _; simp [wT, hx0, hd]
        go_enter Tryz.func49, Tryz.ntmps49
        go_wp2
        go_quiet (fail)
        go_wp2
        go_ret
        exact ⟨retb HE.out.symm, below_drewn (bta (bta0 _ _) _) _⟩
      | false =>
        have HE : Hid (wT nmB 0 n x 0 = false) := by show _ = _; simp [wT, hx0, hd]
        go_enter Tryz.func49, Tryz.ntmps49
        go_wp2
        go_quiet (fail)
        go_wp2
        go_ret
        exact ⟨retb HE.out.symm, below_drewn (bta (bta0 _ _) _) _⟩
    · have hl1 : ((len : Int) == 0) = false := by simp; omega
      have HE : Hid (wT nmB 0 n x len = false) := by show _ = _; simp [wT, hl]
      go_enter Tryz.func49, Tryz.ntmps49
      go_wp2
      go_quiet (fail)
      go_wp2
      go_ret
      exact ⟨retb HE.out.symm, below_drewn (bta (bta0 _ _) _) _⟩
set_option maxHeartbeats 1000000 in
theorem rwt1 (n : Int) (x : ByteArray) (ao : Option Addr) (len cap : Nat) (w : World) (hx : x.size ≤ 9223372036854775807) :
    Calls Tryz.prog 49 #[.agg #[.int .i64 1, .int .i64 n, .string x, .slice ao len cap]] w fun e w' => e = .returned (.bool (wT nmB 1 n x len)) ∧ Below w.heap.size w w' := by
  by_cases hn : n = 0
  · subst hn
    by_cases hl : len = 0
    · subst hl
      have HE : Hid (wT nmB 1 0 x 0 = nmB x) := by show _ = _; simp [wT]
      have NM : Hid (∀ w, Calls Tryz.prog 76 #[.string x] w fun e w' => e = .returned (.bool (nmB x)) ∧ Below w.heap.size w w') := fun w => rname_at x (nmB x) w hx (nmB_iff x)
      generalize nmB x = b at *
      obtain ⟨W1, hW1⟩ : ∃ W1, (w.alloc (.cells #[.int .i64 1, .int .i64 0, .string x, .slice ao 0 cap] 43)).alloc (.cells #[.int .i64 0, .int .i64 0, .int .i64 1, .int .i64 2, .int .i64 2, .int .i64 2] 3) = W1 := ⟨_, rfl⟩
      have q0 : W1.cell? ⟨w.heap.size, 1, none⟩ = some (.int .i64 0) ∧ W1.cell? ⟨w.heap.size, 2, none⟩ = some (.string x) ∧ W1.cell? ⟨w.heap.size, 3, none⟩ = some (.slice ao 0 cap) ∧ W1.cell? ⟨w.heap.size + 1, 1, none⟩ = some (.int .i64 0) := by rw [← hW1]; simp
      have hb1 : Below w.heap.size w W1 := by rw [← hW1]; exact bta (bta0 _ _) _
      have hs1 : w.heap.size + 1 < W1.heap.size := by rw [← hW1]; simp
      go_enter Tryz.func49, Tryz.ntmps49
      go_wp2
      clear hW1
      go_region_held3 (fun w' => w'.cell? ⟨w.heap.size, 1, none⟩ = some (.int .i64 0) ∧ w'.cell? ⟨w.heap.size, 2, none⟩ = some (.string x) ∧ w'.cell? ⟨w.heap.size, 3, none⟩ = some (.slice ao 0 cap) ∧ w'.cell? ⟨w.heap.size + 1, 1, none⟩ = some (.int .i64 0)) (first | exact q0 | exact q2) ((go_at_call 76; refine (NM.out _).mono ?_; rintro e w2 ⟨rfl, hB2⟩; have hBc := hb1.drew.trans (hB2.mono hb1.size); obtain ⟨hc2, _⟩ := bcell hB2; have q2 := And.intro ((hc2 _ 1 (by simp; omega)).trans q0.1) (And.intro ((hc2 _ 2 (by simp; omega)).trans q0.2.1) (And.intro ((hc2 _ 3 (by simp; omega)).trans q0.2.2.1) ((hc2 _ 1 (by simp; omega)).trans q0.2.2.2)))))
      go_wp2
      go_ret
      exact ⟨retb HE.out.symm, hBc⟩
    · have hl1 : ((len : Int) == 0) = false := by simp; omega
      have HE : Hid (wT nmB 1 0 x len = false) := by show _ = _; simp [wT, hl]
      go_enter Tryz.func49, Tryz.ntmps49
      go_wp2
      go_quiet (fail)
      go_wp2
      go_ret
      exact ⟨retb HE.out.symm, below_drewn (bta (bta0 _ _) _) _⟩
  · have hn1 : (n == 0) = false := by simpa using hn
    have HE : Hid (wT nmB 1 n x len = false) := by show _ = _; simp [wT, hn]
    go_enter Tryz.func49, Tryz.ntmps49
    go_wp2
    go_ret
    exact ⟨retb HE.out.symm, bta0 _ _⟩
set_option maxHeartbeats 1000000 in
theorem rwt2 (n : Int) (x : ByteArray) (ao : Option Addr) (len cap : Nat) (w : World) (hx : x.size ≤ 9223372036854775807) :
    Calls Tryz.prog 49 #[.agg #[.int .i64 2, .int .i64 n, .string x, .slice ao len cap]] w fun e w' => e = .returned (.bool (wT nmB 2 n x len)) ∧ Below w.heap.size w w' := by
  by_cases hn : n = 0
  · subst hn
    cases hx0 : (x.toList == []) with
    | false =>
      have HE : Hid (wT nmB 2 0 x len = false) := by show _ = _; simp [wT, hx0]
      go_enter Tryz.func49, Tryz.ntmps49
      go_wp2
      go_ret
      exact ⟨retb HE.out.symm, bta0 _ _⟩
    | true =>
      by_cases hl : len = 1
      · subst hl
        have HE : Hid (wT nmB 2 0 x 1 = true) := by show _ = _; simp [wT, hx0]
        go_enter Tryz.func49, Tryz.ntmps49
        go_wp2
        go_quiet (fail)
        go_wp2
        go_ret
        exact ⟨retb HE.out.symm, below_drewn (bta (bta0 _ _) _) _⟩
      · have hl1 : ((len : Int) == 1) = false := by simp; omega
        have HE : Hid (wT nmB 2 0 x len = false) := by show _ = _; simp [wT, hl]
        go_enter Tryz.func49, Tryz.ntmps49
        go_wp2
        go_quiet (fail)
        go_wp2
        go_ret
        exact ⟨retb HE.out.symm, below_drewn (bta (bta0 _ _) _) _⟩
  · have hn1 : (n == 0) = false := by simpa using hn
    have HE : Hid (wT nmB 2 n x len = false) := by show _ = _; simp [wT, hn]
    go_enter Tryz.func49, Tryz.ntmps49
    go_wp2
    go_ret
    exact ⟨retb HE.out.symm, bta0 _ _⟩
set_option maxHeartbeats 1000000 in
theorem rwt3 (n : Int) (x : ByteArray) (ao : Option Addr) (len cap : Nat) (w : World) (hx : x.size ≤ 9223372036854775807) :
    Calls Tryz.prog 49 #[.agg #[.int .i64 3, .int .i64 n, .string x, .slice ao len cap]] w fun e w' => e = .returned (.bool (wT nmB 3 n x len)) ∧ Below w.heap.size w w' := by
  by_cases hn : n = 0
  · subst hn
    cases hx0 : (x.toList == []) with
    | false =>
      have HE : Hid (wT nmB 3 0 x len = false) := by show _ = _; simp [wT, hx0]
      go_enter Tryz.func49, Tryz.ntmps49
      go_wp2
      go_ret
      exact ⟨retb HE.out.symm, bta0 _ _⟩
    | true =>
      by_cases hl : len = 2
      · subst hl
        have HE : Hid (wT nmB 3 0 x 2 = true) := by show _ = _; simp [wT, hx0]
        go_enter Tryz.func49, Tryz.ntmps49
        go_wp2
        go_quiet (fail)
        go_wp2
        go_ret
        exact ⟨retb HE.out.symm, below_drewn (bta (bta0 _ _) _) _⟩
      · have hl1 : ((len : Int) == 2) = false := by simp; omega
        have HE : Hid (wT nmB 3 0 x len = false) := by show _ = _; simp [wT, hl]
        go_enter Tryz.func49, Tryz.ntmps49
        go_wp2
        go_quiet (fail)
        go_wp2
        go_ret
        exact ⟨retb HE.out.symm, below_drewn (bta (bta0 _ _) _) _⟩
  · have hn1 : (n == 0) = false := by simpa using hn
    have HE : Hid (wT nmB 3 n x len = false) := by show _ = _; simp [wT, hn]
    go_enter Tryz.func49, Tryz.ntmps49
    go_wp2
    go_ret
    exact ⟨retb HE.out.symm, bta0 _ _⟩
set_option maxHeartbeats 1000000 in
theorem rwt4 (n : Int) (x : ByteArray) (ao : Option Addr) (len cap : Nat) (w : World) (hx : x.size ≤ 9223372036854775807) :
    Calls Tryz.prog 49 #[.agg #[.int .i64 4, .int .i64 n, .string x, .slice ao len cap]] w fun e w' => e = .returned (.bool (wT nmB 4 n x len)) ∧ Below w.heap.size w w' := by
  by_cases hn : n = 0
  · subst hn
    cases hx0 : (x.toList == []) with
    | false =>
      have HE : Hid (wT nmB 4 0 x len = false) := by show _ = _; simp [wT, hx0]
      go_enter Tryz.func49, Tryz.ntmps49
      go_wp2
      go_ret
      exact ⟨retb HE.out.symm, bta0 _ _⟩
    | true =>
      by_cases hl : len = 2
      · subst hl
        have HE : Hid (wT nmB 4 0 x 2 = true) := by show _ = _; simp [wT, hx0]
        go_enter Tryz.func49, Tryz.ntmps49
        go_wp2
        go_quiet (fail)
        go_wp2
        go_ret
        exact ⟨retb HE.out.symm, below_drewn (bta (bta0 _ _) _) _⟩
      · have hl1 : ((len : Int) == 2) = false := by simp; omega
        have HE : Hid (wT nmB 4 0 x len = false) := by show _ = _; simp [wT, hl]
        go_enter Tryz.func49, Tryz.ntmps49
        go_wp2
        go_quiet (fail)
        go_wp2
        go_ret
        exact ⟨retb HE.out.symm, below_drewn (bta (bta0 _ _) _) _⟩
  · have hn1 : (n == 0) = false := by simpa using hn
    have HE : Hid (wT nmB 4 n x len = false) := by show _ = _; simp [wT, hn]
    go_enter Tryz.func49, Tryz.ntmps49
    go_wp2
    go_ret
    exact ⟨retb HE.out.symm, bta0 _ _⟩
set_option maxHeartbeats 1000000 in
theorem rwt5 (n : Int) (x : ByteArray) (ao : Option Addr) (len cap : Nat) (w : World) (hx : x.size ≤ 9223372036854775807) :
    Calls Tryz.prog 49 #[.agg #[.int .i64 5, .int .i64 n, .string x, .slice ao len cap]] w fun e w' => e = .returned (.bool (wT nmB 5 n x len)) ∧ Below w.heap.size w w' := by
  by_cases hn : n = 0
  · subst hn
    cases hx0 : (x.toList == []) with
    | false =>
      have HE : Hid (wT nmB 5 0 x len = false) := by show _ = _; simp [wT, hx0]
      go_enter Tryz.func49, Tryz.ntmps49
      go_wp2
      go_ret
      exact ⟨retb HE.out.symm, bta0 _ _⟩
    | true =>
      by_cases hl : len = 2
      · subst hl
        have HE : Hid (wT nmB 5 0 x 2 = true) := by show _ = _; simp [wT, hx0]
        go_enter Tryz.func49, Tryz.ntmps49
        go_wp2
        go_quiet (fail)
        go_wp2
        go_ret
        exact ⟨retb HE.out.symm, below_drewn (bta (bta0 _ _) _) _⟩
      · have hl1 : ((len : Int) == 2) = false := by simp; omega
        have HE : Hid (wT nmB 5 0 x len = false) := by show _ = _; simp [wT, hl]
        go_enter Tryz.func49, Tryz.ntmps49
        go_wp2
        go_quiet (fail)
        go_wp2
        go_ret
        exact ⟨retb HE.out.symm, below_drewn (bta (bta0 _ _) _) _⟩
  · have hn1 : (n == 0) = false := by simpa using hn
    have HE : Hid (wT nmB 5 n x len = false) := by show _ = _; simp [wT, hn]
    go_enter Tryz.func49, Tryz.ntmps49
    go_wp2
    go_ret
    exact ⟨retb HE.out.symm, bta0 _ _⟩
theorem rwt_out (o n : Int) (x : ByteArray) (ao : Option Addr) (len cap : Nat) (w : World) (h : o < 0 ∨ 5 < o) :
    Calls Tryz.prog 49 #[.agg #[.int .i64 o, .int .i64 n, .string x, .slice ao len cap]] w fun e w' => e = .returned (.bool false) ∧ Below w.heap.size w w' := by
  by_cases h0 : o < 0
  · go_enter Tryz.func49, Tryz.ntmps49
    go_wp2
    go_ret
    exact ⟨rfl, bta0 _ _⟩
  · have h1 : decide (o < 0) = false := decide_eq_false h0
    have h2 : 5 < o := by omega
    clear h
    go_enter Tryz.func49, Tryz.ntmps49
    go_wp2
    go_ret
    exact ⟨rfl, bta0 _ _⟩
theorem rwellT_at (W : World) (t : Tm) (v : Value) (w : World) (h : TmV W t v) :
    Calls Tryz.prog 49 #[v] w fun e w' => e = .returned (.bool (wellT nmB t)) ∧ Below w.heap.size w w' := by
  obtain ⟨c0, c1, c2, c3, rfl, hr⟩ := h
  cases t with
  | mk o n x a =>
    rw [RdT] at hr
    obtain ⟨rfl, rfl, rfl, hb, ao, cap, rfl, _⟩ := hr
    show Calls Tryz.prog 49 _ w fun e w' => e = .returned (.bool (wT nmB o n x a.length)) ∧ _
    by_cases ho : o < 0 ∨ 5 < o
    · have : wT nmB o n x a.length = false := by unfold wT; rw [if_neg (by omega), if_neg (by omega), if_neg (by omega), if_neg (by omega)]
      rw [this]
      exact rwt_out o n x ao _ cap w ho
    · rcases (show o = 0 ∨ o = 1 ∨ o = 2 ∨ o = 3 ∨ o = 4 ∨ o = 5 by omega) with rfl | rfl | rfl | rfl | rfl | rfl
      · exact rwt0 n x ao _ cap w hb.2.2
      · exact rwt1 n x ao _ cap w hb.2.2
      · exact rwt2 n x ao _ cap w hb.2.2
      · exact rwt3 n x ao _ cap w hb.2.2
      · exact rwt4 n x ao _ cap w hb.2.2
      · exact rwt5 n x ao _ cap w hb.2.2
end Go.Proofs.YtabfhdmcljdjhaaGreatDoor.Gl
/- The document's wellMade. -/
namespace Go.Proofs.YtabfhdmcljdjhaaGreatDoor.Gl
open Go.RowKit
set_option linter.unusedVariables false

theorem seven_cases {P : Nat → Prop} (k : Nat) (hk : k < 9) (h7 : k ≠ 7) (h8 : k ≠ 8) (h0 : P 0) (h1 : P 1) (h2 : P 2) (h3 : P 3) (h4 : P 4) (h5 : P 5) (h6 : P 6) : P k := by
  rcases (show k = 0 ∨ k = 1 ∨ k = 2 ∨ k = 3 ∨ k = 4 ∨ k = 5 ∨ k = 6 by omega) with rfl | rfl | rfl | rfl | rfl | rfl | rfl <;> assumption
abbrev paL : List Nat := [0, 0, 1, 2, 2, 2, 2, 1, 1, 0, 0, 0, 0, 0, 0, 0]
theorem parts_cell (W : World) (k A : Nat) (h : paL[k]? = some A) : (W.alloc (.cells #[.int .i64 0, .int .i64 0, .int .i64 1, .int .i64 2, .int .i64 2, .int .i64 2, .int .i64 2, .int .i64 1, .int .i64 1, .int .i64 0, .int .i64 0, .int .i64 0, .int .i64 0, .int .i64 0, .int .i64 0, .int .i64 0] 3)).cell? ⟨W.heap.size, k, none⟩ = some (.int .i64 A) := by
  have hk : k < 16 := (List.getElem?_eq_some_iff.1 h).1
  match k, hk, h with
  | 0, _, h => cases h; simp
  | 1, _, h => cases h; simp
  | 2, _, h => cases h; simp
  | 3, _, h => cases h; simp
  | 4, _, h => cases h; simp
  | 5, _, h => cases h; simp
  | 6, _, h => cases h; simp
  | 7, _, h => cases h; simp
  | 8, _, h => cases h; simp
  | 9, _, h => cases h; simp
  | 10, _, h => cases h; simp
  | 11, _, h => cases h; simp
  | 12, _, h => cases h; simp
  | 13, _, h => cases h; simp
  | 14, _, h => cases h; simp
  | 15, _, h => cases h; simp
  | n + 16, hk, _ => omega
theorem pa_low (k : Nat) (h9 : k < 9) (h7 : k ≠ 7) (h8 : k ≠ 8) : ∃ A, paL[k]? = some A ∧ A ≤ 2 ∧ A = if (k : Int) = 2 then 1 else if 3 ≤ (k : Int) ∧ (k : Int) ≤ 6 then 2 else 0 :=
  seven_cases (P := fun k => ∃ A, paL[k]? = some A ∧ A ≤ 2 ∧ A = if (k : Int) = 2 then 1 else if 3 ≤ (k : Int) ∧ (k : Int) ≤ 6 then 2 else 0) k h9 h7 h8 ⟨_, rfl, by decide, by decide⟩ ⟨_, rfl, by decide, by decide⟩ ⟨_, rfl, by decide, by decide⟩ ⟨_, rfl, by decide, by decide⟩ ⟨_, rfl, by decide, by decide⟩ ⟨_, rfl, by decide, by decide⟩ ⟨_, rfl, by decide, by decide⟩
theorem pa_high (k : Nat) (hk : k ≤ 14) (h9 : 9 ≤ k) : ∃ A, paL[k]? = some A ∧ A ≤ 2 ∧ A = 0 := by
  rcases (show k = 9 ∨ k = 10 ∨ k = 11 ∨ k = 12 ∨ k = 13 ∨ k = 14 by omega) with rfl | rfl | rfl | rfl | rfl | rfl <;> exact ⟨0, rfl, by decide, rfl⟩
set_option maxHeartbeats 2000000 in
theorem rwfL (k A : Nat) (x : ByteArray) (m : Int) (bo ao : Option Addr) (nt ct na ca : Nat) (w : World) (hk : k ≤ 14) (hc : k < 9) (h7 : k ≠ 7) (h8 : k ≠ 8) (hA : paL[k]? = some A) (hA2 : A ≤ 2)
    (hw : ∀ x m nt na, wF nmB (k : Nat) x m nt na = ((x.toList == []) && decide (m = 0) && decide (nt = 0) && decide (na = A))) :
    Calls Tryz.prog 71 #[.agg #[.int .i64 k, .string x, .int .i64 m, .slice bo nt ct, .slice ao na ca]] w fun e w' => e = .returned (.bool (wF nmB (k : Nat) x m nt na)) ∧ Below w.heap.size w w' := by
  have HE : Hid (wF nmB (k : Nat) x m nt na = ((x.toList == []) && decide (m = 0) && decide (nt = 0) && decide (na = A))) := hw x m nt na
  have hp := parts_cell (w.alloc (.cells #[.int .i64 k, .string x, .int .i64 m, .slice bo nt ct, .slice ao na ca] 26)) k A hA
  rw [World.size_alloc] at hp
  have d1 : decide ((k : Int) < 0) = false := decide_eq_false (by omega)
  have d2 : decide (15 < k) = false := decide_eq_false (by omega)
  have d3 : ((k : Int) == 7) = false := by simp; omega
  have d4 : ((k : Int) == 8) = false := by simp; omega
  have d5 : ((k : Int) == 15) = false := by simp; omega
  have d6 : ((k : Int) != 15) = true := by simp; omega
  have d7 : decide ((9 : Int) ≤ (k : Int)) = false := decide_eq_false (by omega)
  have i1 : (0 : Int) ≤ (k : Int) := by omega
  have i2 : (k : Int) < 16 := by omega
  clear hw hA
  cases hx0 : (x.toList == []) with
  | false =>
    have HF : Hid (wF nmB (k : Nat) x m nt na = false) := by show _ = _; rw [HE.out, hx0]; rfl
    clear HE hp
    go_enter Tryz.func71, Tryz.ntmps71
    go_wp2
    go_ret
    exact ⟨retb HF.out.symm, bta0 _ _⟩
  | true =>
    by_cases hm : m = 0
    · subst hm
      by_cases ha : na = A
      · have ha1 : ((na : Int) == (A : Int)) = true := by simp; omega
        by_cases ht : nt = 0
        · subst ht
          have HF : Hid (wF nmB (k : Nat) x 0 0 na = true) := by show _ = _; rw [HE.out, hx0, ha]; simp
          clear HE ha
          go_enter Tryz.func71, Tryz.ntmps71
          go_wp2
          go_quiet (fail)
          go_wp2
          go_ret
          exact ⟨retb HF.out.symm, below_drewn (bta (bta0 _ _) _) _⟩
        · have ht1 : ((nt : Int) == 0) = false := by simp; omega
          have HF : Hid (wF nmB (k : Nat) x 0 nt na = false) := by show _ = _; rw [HE.out]; simp [ht]
          clear HE ha
          go_enter Tryz.func71, Tryz.ntmps71
          go_wp2
          go_quiet (fail)
          go_wp2
          go_ret
          exact ⟨retb HF.out.symm, below_drewn (bta (bta0 _ _) _) _⟩
      · have ha1 : ((na : Int) == (A : Int)) = false := by simp; omega
        have HF : Hid (wF nmB (k : Nat) x 0 nt na = false) := by show _ = _; rw [HE.out]; simp [ha]
        clear HE ha
        go_enter Tryz.func71, Tryz.ntmps71
        go_wp2
        go_quiet (fail)
        go_wp2
        go_ret
        exact ⟨retb HF.out.symm, below_drewn (bta (bta0 _ _) _) _⟩
    · have hm1 : (m == 0) = false := by simpa using hm
      have HF : Hid (wF nmB (k : Nat) x m nt na = false) := by show _ = _; rw [HE.out]; simp [hm]
      clear HE hp
      go_enter Tryz.func71, Tryz.ntmps71
      go_wp2
      go_ret
      exact ⟨retb HF.out.symm, bta0 _ _⟩
set_option maxHeartbeats 2000000 in
theorem rwfH (k A : Nat) (x : ByteArray) (m : Int) (bo ao : Option Addr) (nt ct na ca : Nat) (w : World) (hk : k ≤ 14) (hc : 9 ≤ k) (h7 : k ≠ 7) (h8 : k ≠ 8) (hA : paL[k]? = some A) (hA2 : A ≤ 2)
    (hw : ∀ x m nt na, wF nmB (k : Nat) x m nt na = ((x.toList == []) && decide (m = 0) && decide (nt = 2) && decide (na = A))) :
    Calls Tryz.prog 71 #[.agg #[.int .i64 k, .string x, .int .i64 m, .slice bo nt ct, .slice ao na ca]] w fun e w' => e = .returned (.bool (wF nmB (k : Nat) x m nt na)) ∧ Below w.heap.size w w' := by
  have HE : Hid (wF nmB (k : Nat) x m nt na = ((x.toList == []) && decide (m = 0) && decide (nt = 2) && decide (na = A))) := hw x m nt na
  have hp := parts_cell (w.alloc (.cells #[.int .i64 k, .string x, .int .i64 m, .slice bo nt ct, .slice ao na ca] 26)) k A hA
  rw [World.size_alloc] at hp
  have d1 : decide ((k : Int) < 0) = false := decide_eq_false (by omega)
  have d2 : decide (15 < k) = false := decide_eq_false (by omega)
  have d3 : ((k : Int) == 7) = false := by simp; omega
  have d4 : ((k : Int) == 8) = false := by simp; omega
  have d5 : ((k : Int) == 15) = false := by simp; omega
  have d6 : ((k : Int) != 15) = true := by simp; omega
  have d7 : (9 : Int) ≤ (k : Int) := by omega
  have i1 : (0 : Int) ≤ (k : Int) := by omega
  have i2 : (k : Int) < 16 := by omega
  clear hw hA
  cases hx0 : (x.toList == []) with
  | false =>
    have HF : Hid (wF nmB (k : Nat) x m nt na = false) := by show _ = _; rw [HE.out, hx0]; rfl
    clear HE hp
    go_enter Tryz.func71, Tryz.ntmps71
    go_wp2
    go_ret
    exact ⟨retb HF.out.symm, bta0 _ _⟩
  | true =>
    by_cases hm : m = 0
    · subst hm
      by_cases ha : na = A
      · have ha1 : ((na : Int) == (A : Int)) = true := by simp; omega
        by_cases ht : nt = 2
        · subst ht
          have HF : Hid (wF nmB (k : Nat) x 0 2 na = true) := by show _ = _; rw [HE.out, hx0, ha]; simp
          clear HE ha
          go_enter Tryz.func71, Tryz.ntmps71
          go_wp2
          go_quiet (fail)
          go_wp2
          go_ret
          exact ⟨retb HF.out.symm, below_drewn (bta (bta0 _ _) _) _⟩
        · have ht1 : ((nt : Int) == 2) = false := by simp; omega
          have HF : Hid (wF nmB (k : Nat) x 0 nt na = false) := by show _ = _; rw [HE.out]; simp [ht]
          clear HE ha
          go_enter Tryz.func71, Tryz.ntmps71
          go_wp2
          go_quiet (fail)
          go_wp2
          go_ret
          exact ⟨retb HF.out.symm, below_drewn (bta (bta0 _ _) _) _⟩
      · have ha1 : ((na : Int) == (A : Int)) = false := by simp; omega
        have HF : Hid (wF nmB (k : Nat) x 0 nt na = false) := by show _ = _; rw [HE.out]; simp [ha]
        clear HE ha
        go_enter Tryz.func71, Tryz.ntmps71
        go_wp2
        go_quiet (fail)
        go_wp2
        go_ret
        exact ⟨retb HF.out.symm, below_drewn (bta (bta0 _ _) _) _⟩
    · have hm1 : (m == 0) = false := by simpa using hm
      have HF : Hid (wF nmB (k : Nat) x m nt na = false) := by show _ = _; rw [HE.out]; simp [hm]
      clear HE hp
      go_enter Tryz.func71, Tryz.ntmps71
      go_wp2
      go_ret
      exact ⟨retb HF.out.symm, bta0 _ _⟩
set_option maxHeartbeats 1000000 in
theorem rwf7 (x : ByteArray) (m : Int) (bo ao : Option Addr) (nt ct na ca : Nat) (w : World) (hx : x.size ≤ 9223372036854775807) :
    Calls Tryz.prog 71 #[.agg #[.int .i64 7, .string x, .int .i64 m, .slice bo nt ct, .slice ao na ca]] w fun e w' => e = .returned (.bool (wF nmB 7 x m nt na)) ∧ Below w.heap.size w w' := by
  have NM : Hid (∀ w, Calls Tryz.prog 76 #[.string x] w fun e w' => e = .returned (.bool (nmB x)) ∧ Below w.heap.size w w') := fun w => rname_at x (nmB x) w hx (nmB_iff x)
  cases hb : nmB x with
  | false =>
    rw [hb] at NM
    have HE : Hid (wF nmB 7 x m nt na = false) := by show _ = _; simp [wF, hb]
    clear hb
    go_enter Tryz.func71, Tryz.ntmps71
    go_wp2_with (go_at_call 76; refine (NM.out _).mono ?_; rintro e w2 ⟨rfl, hB2⟩; obtain ⟨hc, hf, hd, hg⟩ := res_keep hB2; have hb2 := ba2 hB2)
    go_ret
    exact ⟨retb HE.out.symm, hb2⟩
  | true =>
    rw [hb] at NM
    by_cases hm : m = 0
    · subst hm
      by_cases ha : na = 1
      · subst ha
        by_cases ht : nt = 0
        · subst ht
          have HE : Hid (wF nmB 7 x 0 0 1 = true) := by show _ = _; simp [wF, hb]
          go_enter Tryz.func71, Tryz.ntmps71
          go_wp2_with (go_at_call 76; refine (NM.out _).mono ?_; rintro e w2 ⟨rfl, hB2⟩; obtain ⟨hc, hf, hd, hg⟩ := res_keep hB2; have hb2 := ba2 hB2)
          go_quiet (fail)
          go_wp2
          go_ret
          exact ⟨retb HE.out.symm, below_drewn (bta hb2 _) _⟩
        · have ht1 : ((nt : Int) == 0) = false := by simp; omega
          have HE : Hid (wF nmB 7 x 0 nt 1 = false) := by show _ = _; simp [wF, ht]
          go_enter Tryz.func71, Tryz.ntmps71
          go_wp2_with (go_at_call 76; refine (NM.out _).mono ?_; rintro e w2 ⟨rfl, hB2⟩; obtain ⟨hc, hf, hd, hg⟩ := res_keep hB2; have hb2 := ba2 hB2)
          go_quiet (fail)
          go_wp2
          go_ret
          exact ⟨retb HE.out.symm, below_drewn (bta hb2 _) _⟩
      · have ha1 : ((na : Int) == 1) = false := by simp; omega
        have HE : Hid (wF nmB 7 x 0 nt na = false) := by show _ = _; simp [wF, ha]
        go_enter Tryz.func71, Tryz.ntmps71
        go_wp2_with (go_at_call 76; refine (NM.out _).mono ?_; rintro e w2 ⟨rfl, hB2⟩; obtain ⟨hc, hf, hd, hg⟩ := res_keep hB2; have hb2 := ba2 hB2)
        go_quiet (fail)
        go_wp2
        go_ret
        exact ⟨retb HE.out.symm, below_drewn (bta hb2 _) _⟩
    · have hm1 : (m == 0) = false := by simpa using hm
      have HE : Hid (wF nmB 7 x m nt na = false) := by show _ = _; simp [wF, hm]
      go_enter Tryz.func71, Tryz.ntmps71
      go_wp2_with (go_at_call 76; refine (NM.out _).mono ?_; rintro e w2 ⟨rfl, hB2⟩; obtain ⟨hc, hf, hd, hg⟩ := res_keep hB2; have hb2 := ba2 hB2)
      go_ret
      exact ⟨retb HE.out.symm, hb2⟩
set_option maxHeartbeats 1000000 in
theorem rwf8 (x : ByteArray) (m : Int) (bo ao : Option Addr) (nt ct na ca : Nat) (w : World) (hx : x.size ≤ 9223372036854775807) :
    Calls Tryz.prog 71 #[.agg #[.int .i64 8, .string x, .int .i64 m, .slice bo nt ct, .slice ao na ca]] w fun e w' => e = .returned (.bool (wF nmB 8 x m nt na)) ∧ Below w.heap.size w w' := by
  have NM : Hid (∀ w, Calls Tryz.prog 76 #[.string x] w fun e w' => e = .returned (.bool (nmB x)) ∧ Below w.heap.size w w') := fun w => rname_at x (nmB x) w hx (nmB_iff x)
  cases hb : nmB x with
  | false =>
    rw [hb] at NM
    have HE : Hid (wF nmB 8 x m nt na = false) := by show _ = _; simp [wF, hb]
    clear hb
    go_enter Tryz.func71, Tryz.ntmps71
    go_wp2_with (go_at_call 76; refine (NM.out _).mono ?_; rintro e w2 ⟨rfl, hB2⟩; obtain ⟨hc, hf, hd, hg⟩ := res_keep hB2; have hb2 := ba2 hB2)
    go_ret
    exact ⟨retb HE.out.symm, hb2⟩
  | true =>
    rw [hb] at NM
    by_cases hm : m = 0
    · subst hm
      by_cases ha : na = 1
      · subst ha
        by_cases ht : nt = 0
        · subst ht
          have HE : Hid (wF nmB 8 x 0 0 1 = true) := by show _ = _; simp [wF, hb]
          go_enter Tryz.func71, Tryz.ntmps71
          go_wp2_with (go_at_call 76; refine (NM.out _).mono ?_; rintro e w2 ⟨rfl, hB2⟩; obtain ⟨hc, hf, hd, hg⟩ := res_keep hB2; have hb2 := ba2 hB2)
          go_quiet (fail)
          go_wp2
          go_ret
          exact ⟨retb HE.out.symm, below_drewn (bta hb2 _) _⟩
        · have ht1 : ((nt : Int) == 0) = false := by simp; omega
          have HE : Hid (wF nmB 8 x 0 nt 1 = false) := by show _ = _; simp [wF, ht]
          go_enter Tryz.func71, Tryz.ntmps71
          go_wp2_with (go_at_call 76; refine (NM.out _).mono ?_; rintro e w2 ⟨rfl, hB2⟩; obtain ⟨hc, hf, hd, hg⟩ := res_keep hB2; have hb2 := ba2 hB2)
          go_quiet (fail)
          go_wp2
          go_ret
          exact ⟨retb HE.out.symm, below_drewn (bta hb2 _) _⟩
      · have ha1 : ((na : Int) == 1) = false := by simp; omega
        have HE : Hid (wF nmB 8 x 0 nt na = false) := by show _ = _; simp [wF, ha]
        go_enter Tryz.func71, Tryz.ntmps71
        go_wp2_with (go_at_call 76; refine (NM.out _).mono ?_; rintro e w2 ⟨rfl, hB2⟩; obtain ⟨hc, hf, hd, hg⟩ := res_keep hB2; have hb2 := ba2 hB2)
        go_quiet (fail)
        go_wp2
        go_ret
        exact ⟨retb HE.out.symm, below_drewn (bta hb2 _) _⟩
    · have hm1 : (m == 0) = false := by simpa using hm
      have HE : Hid (wF nmB 8 x m nt na = false) := by show _ = _; simp [wF, hm]
      go_enter Tryz.func71, Tryz.ntmps71
      go_wp2_with (go_at_call 76; refine (NM.out _).mono ?_; rintro e w2 ⟨rfl, hB2⟩; obtain ⟨hc, hf, hd, hg⟩ := res_keep hB2; have hb2 := ba2 hB2)
      go_ret
      exact ⟨retb HE.out.symm, hb2⟩
set_option maxHeartbeats 1000000 in
theorem rwf15 (x : ByteArray) (m : Int) (bo ao : Option Addr) (nt ct na ca : Nat) (w : World) (hx : x.size ≤ 9223372036854775807) :
    Calls Tryz.prog 71 #[.agg #[.int .i64 15, .string x, .int .i64 m, .slice bo nt ct, .slice ao na ca]] w fun e w' => e = .returned (.bool (wF nmB 15 x m nt na)) ∧ Below w.heap.size w w' := by
  cases hx0 : (x.toList == []) with
  | false =>
    have HE : Hid (wF nmB 15 x m nt na = false) := by show _ = _; simp [wF, hx0]
    go_enter Tryz.func71, Tryz.ntmps71
    go_wp2
    go_ret
    exact ⟨retb HE.out.symm, bta0 _ _⟩
  | true =>
    by_cases hm : 1 ≤ m
    · have hm1 : decide (m < 1) = false := decide_eq_false (by omega)
      have hm2 : decide (1 ≤ m) = true := decide_eq_true hm
      by_cases ha : na = 0
      · subst ha
        by_cases ht : nt = 2
        · subst ht
          have HE : Hid (wF nmB 15 x m 2 0 = true) := by show _ = _; simp [wF, hx0, hm]
          go_enter Tryz.func71, Tryz.ntmps71
          go_wp2
          go_quiet (fail)
          go_wp2
          go_ret
          exact ⟨retb HE.out.symm, below_drewn (bta (bta0 _ _) _) _⟩
        · have ht1 : ((nt : Int) == 2) = false := by simp; omega
          have HE : Hid (wF nmB 15 x m nt 0 = false) := by show _ = _; simp [wF, ht]
          go_enter Tryz.func71, Tryz.ntmps71
          go_wp2
          go_quiet (fail)
          go_wp2
          go_ret
          exact ⟨retb HE.out.symm, below_drewn (bta (bta0 _ _) _) _⟩
      · have ha1 : ((na : Int) == 0) = false := by simp; omega
        have HE : Hid (wF nmB 15 x m nt na = false) := by show _ = _; simp [wF, ha]
        go_enter Tryz.func71, Tryz.ntmps71
        go_wp2
        go_quiet (fail)
        go_wp2
        go_ret
        exact ⟨retb HE.out.symm, below_drewn (bta (bta0 _ _) _) _⟩
    · have hm1 : m < 1 := by omega
      have HE : Hid (wF nmB 15 x m nt na = false) := by show _ = _; simp [wF]; omega
      go_enter Tryz.func71, Tryz.ntmps71
      go_wp2
      go_ret
      exact ⟨retb HE.out.symm, bta0 _ _⟩
theorem rwf_out (o : Int) (x : ByteArray) (m : Int) (bo ao : Option Addr) (nt ct na ca : Nat) (w : World) (h : o < 0 ∨ 15 < o) :
    Calls Tryz.prog 71 #[.agg #[.int .i64 o, .string x, .int .i64 m, .slice bo nt ct, .slice ao na ca]] w fun e w' => e = .returned (.bool false) ∧ Below w.heap.size w w' := by
  by_cases h0 : o < 0
  · go_enter Tryz.func71, Tryz.ntmps71
    go_wp2
    go_ret
    exact ⟨rfl, bta0 _ _⟩
  · have h1 : decide (o < 0) = false := decide_eq_false h0
    have h2 : 15 < o := by omega
    clear h
    go_enter Tryz.func71, Tryz.ntmps71
    go_wp2
    go_ret
    exact ⟨rfl, bta0 _ _⟩
theorem rwellF_at (W : World) (f : Fm) (v : Value) (w : World) (h : FmV W f v) :
    Calls Tryz.prog 71 #[v] w fun e w' => e = .returned (.bool (wellF nmB f)) ∧ Below w.heap.size w w' := by
  obtain ⟨c0, c1, c2, c3, c4, rfl, hr⟩ := h
  cases f with
  | mk o x m t a =>
    rw [RdF] at hr
    obtain ⟨rfl, rfl, rfl, hb, ⟨bo, ct, rfl, _⟩, ao, ca, rfl, _⟩ := hr
    show Calls Tryz.prog 71 _ w fun e w' => e = .returned (.bool (wF nmB o x m t.length a.length)) ∧ _
    by_cases ho : o < 0 ∨ 15 < o
    · have : wF nmB o x m t.length a.length = false := by unfold wF; rw [if_neg (by omega), if_neg (by omega), if_neg (by omega)]
      rw [this]
      exact rwf_out o x m bo ao _ ct _ ca w ho
    · by_cases h7 : o = 7
      · subst h7; exact rwf7 x m bo ao _ ct _ ca w hb.2.2
      · by_cases h8 : o = 8
        · subst h8; exact rwf8 x m bo ao _ ct _ ca w hb.2.2
        · by_cases h15 : o = 15
          · subst h15; exact rwf15 x m bo ao _ ct _ ca w hb.2.2
          · obtain ⟨k, rfl⟩ : ∃ k : Nat, o = (k : Int) := ⟨o.toNat, by omega⟩
            have hk : k ≤ 14 := by omega
            by_cases h9 : k < 9
            · obtain ⟨A, hA, hA2, hA3⟩ := pa_low k h9 (by omega) (by omega)
              exact rwfL k A x m bo ao _ ct _ ca w hk h9 (by omega) (by omega) hA hA2 (fun x m nt na => by
                unfold wF
                rw [if_neg (by omega), if_neg (by omega), if_pos (by omega), if_neg (by omega), hA3])
            · obtain ⟨A, hA, hA2, hA3⟩ := pa_high k hk (by omega)
              exact rwfH k A x m bo ao _ ct _ ca w hk (by omega) (by omega) (by omega) hA hA2 (fun x m nt na => by
                unfold wF
                rw [if_neg (by omega), if_neg (by omega), if_pos (by omega), if_pos (by omega), if_neg (by omega), if_neg (by omega), hA3])
end Go.Proofs.YtabfhdmcljdjhaaGreatDoor.Gl
