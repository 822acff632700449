/- The document's wellTerm. -/
import Derived.Test.YtncgmnijgdfenaaDoorTrB
namespace Go.Proofs.YtncgmnijgdfenaaDoor.Gl
open Go.RowKit
set_option linter.unusedVariables false

theorem bta0 (w : World) (o : Obj) : Below w.heap.size w (w.alloc o) := (Below.refl _ _).alloc (Nat.le_refl _) o
set_option maxHeartbeats 1000000 in
theorem rwt0 (n : Int) (x : ByteArray) (ao : Option Addr) (len cap : Nat) (w : World) (hx : x.size ≤ 9223372036854775807) :
    Calls Tryd.prog 34 #[.agg #[.int .i64 0, .int .i64 n, .string x, .slice ao len cap]] w fun e w' => e = .returned (.bool (wT nmB 0 n x len)) ∧ Below w.heap.size w w' := by
  cases hx0 : (x.toList == []) with
  | false =>
    have HE : Hid (wT nmB 0 n x len = false) := by show _ = _; simp [wT, hx0]
    go_enter Tryd.func34, Tryd.ntmps34
    go_wp2
    go_ret
    exact ⟨retb HE.out.symm, bta0 _ _⟩
  | true =>
    by_cases hl : len = 0
    · subst hl
      cases hd : decide (0 ≤ n) with
      | true =>
        have HE : Hid (wT nmB 0 n x 0 = true) := by show _ = _; simp [wT, hx0, hd]
        go_enter Tryd.func34, Tryd.ntmps34
        go_wp2
        go_quiet (fail)
        go_wp2
        go_ret
        exact ⟨retb HE.out.symm, below_drewn (bta (bta0 _ _) _) _⟩
      | false =>
        have HE : Hid (wT nmB 0 n x 0 = false) := by show _ = _; simp [wT, hx0, hd]
        go_enter Tryd.func34, Tryd.ntmps34
        go_wp2
        go_quiet (fail)
        go_wp2
        go_ret
        exact ⟨retb HE.out.symm, below_drewn (bta (bta0 _ _) _) _⟩
    · have hl1 : ((len : Int) == 0) = false := by simp; omega
      have HE : Hid (wT nmB 0 n x len = false) := by show _ = _; simp [wT, hl]
      go_enter Tryd.func34, Tryd.ntmps34
      go_wp2
      go_quiet (fail)
      go_wp2
      go_ret
      exact ⟨retb HE.out.symm, below_drewn (bta (bta0 _ _) _) _⟩
set_option maxHeartbeats 1000000 in
theorem rwt1 (n : Int) (x : ByteArray) (ao : Option Addr) (len cap : Nat) (w : World) (hx : x.size ≤ 9223372036854775807) :
    Calls Tryd.prog 34 #[.agg #[.int .i64 1, .int .i64 n, .string x, .slice ao len cap]] w fun e w' => e = .returned (.bool (wT nmB 1 n x len)) ∧ Below w.heap.size w w' := by
  by_cases hn : n = 0
  · subst hn
    by_cases hl : len = 0
    · subst hl
      have HE : Hid (wT nmB 1 0 x 0 = nmB x) := by show _ = _; simp [wT]
      have NM : Hid (∀ w, Calls Tryd.prog 45 #[.string x] w fun e w' => e = .returned (.bool (nmB x)) ∧ Below w.heap.size w w') := fun w => rname_at x (nmB x) w hx (nmB_iff x)
      generalize nmB x = b at *
      obtain ⟨W1, hW1⟩ : ∃ W1, (w.alloc (.cells #[.int .i64 1, .int .i64 0, .string x, .slice ao 0 cap] 36)).alloc (.cells #[.int .i64 0, .int .i64 0, .int .i64 1, .int .i64 2, .int .i64 2, .int .i64 2] 3) = W1 := ⟨_, rfl⟩
      have q0 : W1.cell? ⟨w.heap.size, 1, none⟩ = some (.int .i64 0) ∧ W1.cell? ⟨w.heap.size, 2, none⟩ = some (.string x) ∧ W1.cell? ⟨w.heap.size, 3, none⟩ = some (.slice ao 0 cap) ∧ W1.cell? ⟨w.heap.size + 1, 1, none⟩ = some (.int .i64 0) := by rw [← hW1]; simp
      have hb1 : Below w.heap.size w W1 := by rw [← hW1]; exact bta (bta0 _ _) _
      have hs1 : w.heap.size + 1 < W1.heap.size := by rw [← hW1]; simp
      go_enter Tryd.func34, Tryd.ntmps34
      go_wp2
      clear hW1
      go_region_held3 (fun w' => w'.cell? ⟨w.heap.size, 1, none⟩ = some (.int .i64 0) ∧ w'.cell? ⟨w.heap.size, 2, none⟩ = some (.string x) ∧ w'.cell? ⟨w.heap.size, 3, none⟩ = some (.slice ao 0 cap) ∧ w'.cell? ⟨w.heap.size + 1, 1, none⟩ = some (.int .i64 0)) (first | exact q0 | exact q2) ((go_at_call 45; refine (NM.out _).mono ?_; rintro e w2 ⟨rfl, hB2⟩; have hBc := hb1.drew.trans (hB2.mono hb1.size); obtain ⟨hc2, _⟩ := bcell hB2; have q2 := And.intro ((hc2 _ 1 (by simp; omega)).trans q0.1) (And.intro ((hc2 _ 2 (by simp; omega)).trans q0.2.1) (And.intro ((hc2 _ 3 (by simp; omega)).trans q0.2.2.1) ((hc2 _ 1 (by simp; omega)).trans q0.2.2.2)))))
      go_wp2
      go_ret
      exact ⟨retb HE.out.symm, hBc⟩
    · have hl1 : ((len : Int) == 0) = false := by simp; omega
      have HE : Hid (wT nmB 1 0 x len = false) := by show _ = _; simp [wT, hl]
      go_enter Tryd.func34, Tryd.ntmps34
      go_wp2
      go_quiet (fail)
      go_wp2
      go_ret
      exact ⟨retb HE.out.symm, below_drewn (bta (bta0 _ _) _) _⟩
  · have hn1 : (n == 0) = false := by simpa using hn
    have HE : Hid (wT nmB 1 n x len = false) := by show _ = _; simp [wT, hn]
    go_enter Tryd.func34, Tryd.ntmps34
    go_wp2
    go_ret
    exact ⟨retb HE.out.symm, bta0 _ _⟩
set_option maxHeartbeats 1000000 in
theorem rwt2 (n : Int) (x : ByteArray) (ao : Option Addr) (len cap : Nat) (w : World) (hx : x.size ≤ 9223372036854775807) :
    Calls Tryd.prog 34 #[.agg #[.int .i64 2, .int .i64 n, .string x, .slice ao len cap]] w fun e w' => e = .returned (.bool (wT nmB 2 n x len)) ∧ Below w.heap.size w w' := by
  by_cases hn : n = 0
  · subst hn
    cases hx0 : (x.toList == []) with
    | false =>
      have HE : Hid (wT nmB 2 0 x len = false) := by show _ = _; simp [wT, hx0]
      go_enter Tryd.func34, Tryd.ntmps34
      go_wp2
      go_ret
      exact ⟨retb HE.out.symm, bta0 _ _⟩
    | true =>
      by_cases hl : len = 1
      · subst hl
        have HE : Hid (wT nmB 2 0 x 1 = true) := by show _ = _; simp [wT, hx0]
        go_enter Tryd.func34, Tryd.ntmps34
        go_wp2
        go_quiet (fail)
        go_wp2
        go_ret
        exact ⟨retb HE.out.symm, below_drewn (bta (bta0 _ _) _) _⟩
      · have hl1 : ((len : Int) == 1) = false := by simp; omega
        have HE : Hid (wT nmB 2 0 x len = false) := by show _ = _; simp [wT, hl]
        go_enter Tryd.func34, Tryd.ntmps34
        go_wp2
        go_quiet (fail)
        go_wp2
        go_ret
        exact ⟨retb HE.out.symm, below_drewn (bta (bta0 _ _) _) _⟩
  · have hn1 : (n == 0) = false := by simpa using hn
    have HE : Hid (wT nmB 2 n x len = false) := by show _ = _; simp [wT, hn]
    go_enter Tryd.func34, Tryd.ntmps34
    go_wp2
    go_ret
    exact ⟨retb HE.out.symm, bta0 _ _⟩
set_option maxHeartbeats 1000000 in
theorem rwt3 (n : Int) (x : ByteArray) (ao : Option Addr) (len cap : Nat) (w : World) (hx : x.size ≤ 9223372036854775807) :
    Calls Tryd.prog 34 #[.agg #[.int .i64 3, .int .i64 n, .string x, .slice ao len cap]] w fun e w' => e = .returned (.bool (wT nmB 3 n x len)) ∧ Below w.heap.size w w' := by
  by_cases hn : n = 0
  · subst hn
    cases hx0 : (x.toList == []) with
    | false =>
      have HE : Hid (wT nmB 3 0 x len = false) := by show _ = _; simp [wT, hx0]
      go_enter Tryd.func34, Tryd.ntmps34
      go_wp2
      go_ret
      exact ⟨retb HE.out.symm, bta0 _ _⟩
    | true =>
      by_cases hl : len = 2
      · subst hl
        have HE : Hid (wT nmB 3 0 x 2 = true) := by show _ = _; simp [wT, hx0]
        go_enter Tryd.func34, Tryd.ntmps34
        go_wp2
        go_quiet (fail)
        go_wp2
        go_ret
        exact ⟨retb HE.out.symm, below_drewn (bta (bta0 _ _) _) _⟩
      · have hl1 : ((len : Int) == 2) = false := by simp; omega
        have HE : Hid (wT nmB 3 0 x len = false) := by show _ = _; simp [wT, hl]
        go_enter Tryd.func34, Tryd.ntmps34
        go_wp2
        go_quiet (fail)
        go_wp2
        go_ret
        exact ⟨retb HE.out.symm, below_drewn (bta (bta0 _ _) _) _⟩
  · have hn1 : (n == 0) = false := by simpa using hn
    have HE : Hid (wT nmB 3 n x len = false) := by show _ = _; simp [wT, hn]
    go_enter Tryd.func34, Tryd.ntmps34
    go_wp2
    go_ret
    exact ⟨retb HE.out.symm, bta0 _ _⟩
set_option maxHeartbeats 1000000 in
theorem rwt4 (n : Int) (x : ByteArray) (ao : Option Addr) (len cap : Nat) (w : World) (hx : x.size ≤ 9223372036854775807) :
    Calls Tryd.prog 34 #[.agg #[.int .i64 4, .int .i64 n, .string x, .slice ao len cap]] w fun e w' => e = .returned (.bool (wT nmB 4 n x len)) ∧ Below w.heap.size w w' := by
  by_cases hn : n = 0
  · subst hn
    cases hx0 : (x.toList == []) with
    | false =>
      have HE : Hid (wT nmB 4 0 x len = false) := by show _ = _; simp [wT, hx0]
      go_enter Tryd.func34, Tryd.ntmps34
      go_wp2
      go_ret
      exact ⟨retb HE.out.symm, bta0 _ _⟩
    | true =>
      by_cases hl : len = 2
      · subst hl
        have HE : Hid (wT nmB 4 0 x 2 = true) := by show _ = _; simp [wT, hx0]
        go_enter Tryd.func34, Tryd.ntmps34
        go_wp2
        go_quiet (fail)
        go_wp2
        go_ret
        exact ⟨retb HE.out.symm, below_drewn (bta (bta0 _ _) _) _⟩
      · have hl1 : ((len : Int) == 2) = false := by simp; omega
        have HE : Hid (wT nmB 4 0 x len = false) := by show _ = _; simp [wT, hl]
        go_enter Tryd.func34, Tryd.ntmps34
        go_wp2
        go_quiet (fail)
        go_wp2
        go_ret
        exact ⟨retb HE.out.symm, below_drewn (bta (bta0 _ _) _) _⟩
  · have hn1 : (n == 0) = false := by simpa using hn
    have HE : Hid (wT nmB 4 n x len = false) := by show _ = _; simp [wT, hn]
    go_enter Tryd.func34, Tryd.ntmps34
    go_wp2
    go_ret
    exact ⟨retb HE.out.symm, bta0 _ _⟩
set_option maxHeartbeats 1000000 in
theorem rwt5 (n : Int) (x : ByteArray) (ao : Option Addr) (len cap : Nat) (w : World) (hx : x.size ≤ 9223372036854775807) :
    Calls Tryd.prog 34 #[.agg #[.int .i64 5, .int .i64 n, .string x, .slice ao len cap]] w fun e w' => e = .returned (.bool (wT nmB 5 n x len)) ∧ Below w.heap.size w w' := by
  by_cases hn : n = 0
  · subst hn
    cases hx0 : (x.toList == []) with
    | false =>
      have HE : Hid (wT nmB 5 0 x len = false) := by show _ = _; simp [wT, hx0]
      go_enter Tryd.func34, Tryd.ntmps34
      go_wp2
      go_ret
      exact ⟨retb HE.out.symm, bta0 _ _⟩
    | true =>
      by_cases hl : len = 2
      · subst hl
        have HE : Hid (wT nmB 5 0 x 2 = true) := by show _ = _; simp [wT, hx0]
        go_enter Tryd.func34, Tryd.ntmps34
        go_wp2
        go_quiet (fail)
        go_wp2
        go_ret
        exact ⟨retb HE.out.symm, below_drewn (bta (bta0 _ _) _) _⟩
      · have hl1 : ((len : Int) == 2) = false := by simp; omega
        have HE : Hid (wT nmB 5 0 x len = false) := by show _ = _; simp [wT, hl]
        go_enter Tryd.func34, Tryd.ntmps34
        go_wp2
        go_quiet (fail)
        go_wp2
        go_ret
        exact ⟨retb HE.out.symm, below_drewn (bta (bta0 _ _) _) _⟩
  · have hn1 : (n == 0) = false := by simpa using hn
    have HE : Hid (wT nmB 5 n x len = false) := by show _ = _; simp [wT, hn]
    go_enter Tryd.func34, Tryd.ntmps34
    go_wp2
    go_ret
    exact ⟨retb HE.out.symm, bta0 _ _⟩
theorem rwt_out (o n : Int) (x : ByteArray) (ao : Option Addr) (len cap : Nat) (w : World) (h : o < 0 ∨ 5 < o) :
    Calls Tryd.prog 34 #[.agg #[.int .i64 o, .int .i64 n, .string x, .slice ao len cap]] w fun e w' => e = .returned (.bool false) ∧ Below w.heap.size w w' := by
  by_cases h0 : o < 0
  · go_enter Tryd.func34, Tryd.ntmps34
    go_wp2
    go_ret
    exact ⟨rfl, bta0 _ _⟩
  · have h1 : decide (o < 0) = false := decide_eq_false h0
    have h2 : 5 < o := by omega
    clear h
    go_enter Tryd.func34, Tryd.ntmps34
    go_wp2
    go_ret
    exact ⟨rfl, bta0 _ _⟩
theorem rwellT_at (W : World) (t : Tm) (v : Value) (w : World) (h : TmV W t v) :
    Calls Tryd.prog 34 #[v] w fun e w' => e = .returned (.bool (wellT nmB t)) ∧ Below w.heap.size w w' := by
  obtain ⟨c0, c1, c2, c3, rfl, hr⟩ := h
  cases t with
  | mk o n x a =>
    rw [RdT] at hr
    obtain ⟨rfl, rfl, rfl, hb, ao, cap, rfl, _⟩ := hr
    show Calls Tryd.prog 34 _ w fun e w' => e = .returned (.bool (wT nmB o n x a.length)) ∧ _
    by_cases ho : o < 0 ∨ 5 < o
    · have : wT nmB o n x a.length = false := by unfold wT; rw [if_neg (by omega), if_neg (by omega), if_neg (by omega), if_neg (by omega)]
      rw [this]
      exact rwt_out o n x ao _ cap w ho
    · rcases (show o = 0 ∨ o = 1 ∨ o = 2 ∨ o = 3 ∨ o = 4 ∨ o = 5 by omega) with rfl | rfl | rfl | rfl | rfl | rfl
      · exact rwt0 n x ao _ cap w hb.2.2
      · exact rwt1 n x ao _ cap w hb.2.2
      · exact rwt2 n x ao _ cap w hb.2.2
      · exact rwt3 n x ao _ cap w hb.2.2
      · exact rwt4 n x ao _ cap w hb.2.2
      · exact rwt5 n x ao _ cap w hb.2.2
end Go.Proofs.YtncgmnijgdfenaaDoor.Gl
