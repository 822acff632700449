/- The landed reader: relation. -/
import Derived.Test.YtabfhdmcljdjhaaDoorPcJ
namespace Go.Proofs.YtabfhdmcljdjhaaDoor.Gl
open Go.RowKit
set_option linter.unusedVariables false
set_option linter.unusedSimpArgs false

set_option maxHeartbeats 4000000 in
theorem rel_0 {X : Rx} {w : World} {p : Nat} (h : Ps X w (.at p)) (hs : IsS X.ws p (⟨#[60, 61]⟩ : ByteArray)) :
    Calls Tryd.prog 70 #[.pointer (some ⟨X.b, 0, none⟩)] w fun e w' => e = .returned (.int .i64 9) ∧ Ps X w' (.at (p + 1)) ∧ Bux X.b w w' := by
  go_enter Tryd.func70, Tryd.ntmps70
  go_wp2_with (fail)
  refine (takes_yes h hs).mono ?_
  rintro e w0 ⟨rfl, h0, hC0⟩
  go_wp2
  go_ret
  exact ⟨rfl, h0, hC0⟩
set_option maxHeartbeats 4000000 in
theorem rel_1 {X : Rx} {w : World} {p : Nat} (h : Ps X w (.at p)) (hs : IsS X.ws p (⟨#[60]⟩ : ByteArray)) :
    Calls Tryd.prog 70 #[.pointer (some ⟨X.b, 0, none⟩)] w fun e w' => e = .returned (.int .i64 10) ∧ Ps X w' (.at (p + 1)) ∧ Bux X.b w w' := by
  go_enter Tryd.func70, Tryd.ntmps70
  go_wp2_with (fail)
  refine (takes_no (x := ⟨#[60, 61]⟩) h (by decide) (hs.ne (by decide))).mono ?_
  rintro e w0 ⟨rfl, h0, hB0⟩
  go_wp2_with (fail)
  refine (takes_yes h0 hs).mono ?_
  rintro e w1 ⟨rfl, h1, hC1⟩
  go_wp2
  go_ret
  exact ⟨rfl, h1, (Bux.of hB0).trans (hC1)⟩
set_option maxHeartbeats 4000000 in
theorem rel_2 {X : Rx} {w : World} {p : Nat} (h : Ps X w (.at p)) (hs : IsS X.ws p (⟨#[62, 61]⟩ : ByteArray)) :
    Calls Tryd.prog 70 #[.pointer (some ⟨X.b, 0, none⟩)] w fun e w' => e = .returned (.int .i64 11) ∧ Ps X w' (.at (p + 1)) ∧ Bux X.b w w' := by
  go_enter Tryd.func70, Tryd.ntmps70
  go_wp2_with (fail)
  refine (takes_no (x := ⟨#[60, 61]⟩) h (by decide) (hs.ne (by decide))).mono ?_
  rintro e w0 ⟨rfl, h0, hB0⟩
  go_wp2_with (fail)
  refine (takes_no (x := ⟨#[60]⟩) h0 (by decide) (hs.ne (by decide))).mono ?_
  rintro e w1 ⟨rfl, h1, hB1⟩
  go_wp2_with (fail)
  refine (takes_yes h1 hs).mono ?_
  rintro e w2 ⟨rfl, h2, hC2⟩
  go_wp2
  go_ret
  exact ⟨rfl, h2, (Bux.of hB0).trans ((Bux.of hB1).trans (hC2))⟩
set_option maxHeartbeats 4000000 in
theorem rel_3 {X : Rx} {w : World} {p : Nat} (h : Ps X w (.at p)) (hs : IsS X.ws p (⟨#[62]⟩ : ByteArray)) :
    Calls Tryd.prog 70 #[.pointer (some ⟨X.b, 0, none⟩)] w fun e w' => e = .returned (.int .i64 12) ∧ Ps X w' (.at (p + 1)) ∧ Bux X.b w w' := by
  go_enter Tryd.func70, Tryd.ntmps70
  go_wp2_with (fail)
  refine (takes_no (x := ⟨#[60, 61]⟩) h (by decide) (hs.ne (by decide))).mono ?_
  rintro e w0 ⟨rfl, h0, hB0⟩
  go_wp2_with (fail)
  refine (takes_no (x := ⟨#[60]⟩) h0 (by decide) (hs.ne (by decide))).mono ?_
  rintro e w1 ⟨rfl, h1, hB1⟩
  go_wp2_with (fail)
  refine (takes_no (x := ⟨#[62, 61]⟩) h1 (by decide) (hs.ne (by decide))).mono ?_
  rintro e w2 ⟨rfl, h2, hB2⟩
  go_wp2_with (fail)
  refine (takes_yes h2 hs).mono ?_
  rintro e w3 ⟨rfl, h3, hC3⟩
  go_wp2
  go_ret
  exact ⟨rfl, h3, (Bux.of hB0).trans ((Bux.of hB1).trans ((Bux.of hB2).trans (hC3)))⟩
set_option maxHeartbeats 4000000 in
theorem rel_4 {X : Rx} {w : World} {p : Nat} (h : Ps X w (.at p)) (hs : IsS X.ws p (⟨#[61]⟩ : ByteArray)) :
    Calls Tryd.prog 70 #[.pointer (some ⟨X.b, 0, none⟩)] w fun e w' => e = .returned (.int .i64 13) ∧ Ps X w' (.at (p + 1)) ∧ Bux X.b w w' := by
  go_enter Tryd.func70, Tryd.ntmps70
  go_wp2_with (fail)
  refine (takes_no (x := ⟨#[60, 61]⟩) h (by decide) (hs.ne (by decide))).mono ?_
  rintro e w0 ⟨rfl, h0, hB0⟩
  go_wp2_with (fail)
  refine (takes_no (x := ⟨#[60]⟩) h0 (by decide) (hs.ne (by decide))).mono ?_
  rintro e w1 ⟨rfl, h1, hB1⟩
  go_wp2_with (fail)
  refine (takes_no (x := ⟨#[62, 61]⟩) h1 (by decide) (hs.ne (by decide))).mono ?_
  rintro e w2 ⟨rfl, h2, hB2⟩
  go_wp2_with (fail)
  refine (takes_no (x := ⟨#[62]⟩) h2 (by decide) (hs.ne (by decide))).mono ?_
  rintro e w3 ⟨rfl, h3, hB3⟩
  go_wp2_with (fail)
  refine (takes_yes h3 hs).mono ?_
  rintro e w4 ⟨rfl, h4, hC4⟩
  go_wp2
  go_ret
  exact ⟨rfl, h4, (Bux.of hB0).trans ((Bux.of hB1).trans ((Bux.of hB2).trans ((Bux.of hB3).trans (hC4))))⟩
set_option maxHeartbeats 4000000 in
theorem rel_5 {X : Rx} {w : World} {p : Nat} (h : Ps X w (.at p)) (hs : IsS X.ws p (⟨#[33, 61]⟩ : ByteArray)) :
    Calls Tryd.prog 70 #[.pointer (some ⟨X.b, 0, none⟩)] w fun e w' => e = .returned (.int .i64 14) ∧ Ps X w' (.at (p + 1)) ∧ Bux X.b w w' := by
  go_enter Tryd.func70, Tryd.ntmps70
  go_wp2_with (fail)
  refine (takes_no (x := ⟨#[60, 61]⟩) h (by decide) (hs.ne (by decide))).mono ?_
  rintro e w0 ⟨rfl, h0, hB0⟩
  go_wp2_with (fail)
  refine (takes_no (x := ⟨#[60]⟩) h0 (by decide) (hs.ne (by decide))).mono ?_
  rintro e w1 ⟨rfl, h1, hB1⟩
  go_wp2_with (fail)
  refine (takes_no (x := ⟨#[62, 61]⟩) h1 (by decide) (hs.ne (by decide))).mono ?_
  rintro e w2 ⟨rfl, h2, hB2⟩
  go_wp2_with (fail)
  refine (takes_no (x := ⟨#[62]⟩) h2 (by decide) (hs.ne (by decide))).mono ?_
  rintro e w3 ⟨rfl, h3, hB3⟩
  go_wp2_with (fail)
  refine (takes_no (x := ⟨#[61]⟩) h3 (by decide) (hs.ne (by decide))).mono ?_
  rintro e w4 ⟨rfl, h4, hB4⟩
  go_wp2_with (fail)
  refine (takes_yes h4 hs).mono ?_
  rintro e w5 ⟨rfl, h5, hC5⟩
  go_wp2
  go_ret
  exact ⟨rfl, h5, (Bux.of hB0).trans ((Bux.of hB1).trans ((Bux.of hB2).trans ((Bux.of hB3).trans ((Bux.of hB4).trans (hC5)))))⟩
set_option maxHeartbeats 4000000 in
theorem rel_6 {X : Rx} {w : World} {p : Nat} (h : Ps X w (.at p)) (hs : IsS X.ws p (⟨#[126]⟩ : ByteArray)) :
    Calls Tryd.prog 70 #[.pointer (some ⟨X.b, 0, none⟩)] w fun e w' => e = .returned (.int .i64 15) ∧ Ps X w' (.at (p + 1)) ∧ Bux X.b w w' := by
  go_enter Tryd.func70, Tryd.ntmps70
  go_wp2_with (fail)
  refine (takes_no (x := ⟨#[60, 61]⟩) h (by decide) (hs.ne (by decide))).mono ?_
  rintro e w0 ⟨rfl, h0, hB0⟩
  go_wp2_with (fail)
  refine (takes_no (x := ⟨#[60]⟩) h0 (by decide) (hs.ne (by decide))).mono ?_
  rintro e w1 ⟨rfl, h1, hB1⟩
  go_wp2_with (fail)
  refine (takes_no (x := ⟨#[62, 61]⟩) h1 (by decide) (hs.ne (by decide))).mono ?_
  rintro e w2 ⟨rfl, h2, hB2⟩
  go_wp2_with (fail)
  refine (takes_no (x := ⟨#[62]⟩) h2 (by decide) (hs.ne (by decide))).mono ?_
  rintro e w3 ⟨rfl, h3, hB3⟩
  go_wp2_with (fail)
  refine (takes_no (x := ⟨#[61]⟩) h3 (by decide) (hs.ne (by decide))).mono ?_
  rintro e w4 ⟨rfl, h4, hB4⟩
  go_wp2_with (fail)
  refine (takes_no (x := ⟨#[33, 61]⟩) h4 (by decide) (hs.ne (by decide))).mono ?_
  rintro e w5 ⟨rfl, h5, hB5⟩
  go_wp2_with (fail)
  refine (takes_yes h5 hs).mono ?_
  rintro e w6 ⟨rfl, h6, hC6⟩
  go_wp2
  go_ret
  exact ⟨rfl, h6, (Bux.of hB0).trans ((Bux.of hB1).trans ((Bux.of hB2).trans ((Bux.of hB3).trans ((Bux.of hB4).trans ((Bux.of hB5).trans (hC6))))))⟩
set_option maxHeartbeats 4000000 in
theorem rel_7 {X : Rx} {w : World} {P : Pos} (h : Ps X w P) (hn : ∀ x ∈ rels, ¬ P.stands X.ws x) :
    Calls Tryd.prog 70 #[.pointer (some ⟨X.b, 0, none⟩)] w fun e w' => e = .returned (.int .i64 1) ∧ Ps X w' (P.ref 71) ∧ Bux X.b w w' := by
  go_enter Tryd.func70, Tryd.ntmps70
  go_wp2_with (fail)
  refine (takes_no (x := ⟨#[60, 61]⟩) h (by decide) (hn _ (by simp [rels]))).mono ?_
  rintro e w0 ⟨rfl, h0, hB0⟩
  go_wp2_with (fail)
  refine (takes_no (x := ⟨#[60]⟩) h0 (by decide) (hn _ (by simp [rels]))).mono ?_
  rintro e w1 ⟨rfl, h1, hB1⟩
  go_wp2_with (fail)
  refine (takes_no (x := ⟨#[62, 61]⟩) h1 (by decide) (hn _ (by simp [rels]))).mono ?_
  rintro e w2 ⟨rfl, h2, hB2⟩
  go_wp2_with (fail)
  refine (takes_no (x := ⟨#[62]⟩) h2 (by decide) (hn _ (by simp [rels]))).mono ?_
  rintro e w3 ⟨rfl, h3, hB3⟩
  go_wp2_with (fail)
  refine (takes_no (x := ⟨#[61]⟩) h3 (by decide) (hn _ (by simp [rels]))).mono ?_
  rintro e w4 ⟨rfl, h4, hB4⟩
  go_wp2_with (fail)
  refine (takes_no (x := ⟨#[33, 61]⟩) h4 (by decide) (hn _ (by simp [rels]))).mono ?_
  rintro e w5 ⟨rfl, h5, hB5⟩
  go_wp2_with (fail)
  refine (takes_no (x := ⟨#[126]⟩) h5 (by decide) (hn _ (by simp [rels]))).mono ?_
  rintro e w6 ⟨rfl, h6, hB6⟩
  go_wp2_with (fail)
  refine (refuse_any h6 71 (by decide)).mono ?_
  rintro e w7 ⟨rfl, h7, hC7⟩
  go_wp2
  go_ret
  exact ⟨rfl, h7, (Bux.of hB0).trans ((Bux.of hB1).trans ((Bux.of hB2).trans ((Bux.of hB3).trans ((Bux.of hB4).trans ((Bux.of hB5).trans ((Bux.of hB6).trans (hC7)))))))⟩
/-- every way -/
theorem relation_at {X : Rx} {w : World} {P P2 : Pos} {i : Option Nat} (h : Ps X w P) (hr : GR X.ws P i P2) :
    Calls Tryd.prog 70 #[.pointer (some ⟨X.b, 0, none⟩)] w fun e w' => ∃ o : Int, e = .returned (.int .i64 o) ∧ (∀ k, i = some k → k < 7 ∧ o = 9 + (k : Nat)) ∧ (i = none → o = 1) ∧ Ps X w' P2 ∧ Bux X.b w w' := by
  cases hr with
  | bad => exact (rel_7 h (fun _ _ h => h)).mono fun e w' ⟨h1, h2, h3⟩ => ⟨1, h1, fun _ e => (by cases e), fun _ => rfl, h2, h3⟩
  | none hn => exact (rel_7 h hn).mono fun e w' ⟨h1, h2, h3⟩ => ⟨1, h1, fun _ e => (by cases e), fun _ => rfl, h2, h3⟩
  | @some p k hk hs =>
    rcases (show k = 0 ∨ k = 1 ∨ k = 2 ∨ k = 3 ∨ k = 4 ∨ k = 5 ∨ k = 6 by omega) with rfl | rfl | rfl | rfl | rfl | rfl | rfl
    · exact (rel_0 h hs).mono fun e w' ⟨h1, h2, h3⟩ => ⟨_, h1, fun _ e => by cases e; exact ⟨by decide, rfl⟩, fun e => (by cases e), h2, h3⟩
    · exact (rel_1 h hs).mono fun e w' ⟨h1, h2, h3⟩ => ⟨_, h1, fun _ e => by cases e; exact ⟨by decide, rfl⟩, fun e => (by cases e), h2, h3⟩
    · exact (rel_2 h hs).mono fun e w' ⟨h1, h2, h3⟩ => ⟨_, h1, fun _ e => by cases e; exact ⟨by decide, rfl⟩, fun e => (by cases e), h2, h3⟩
    · exact (rel_3 h hs).mono fun e w' ⟨h1, h2, h3⟩ => ⟨_, h1, fun _ e => by cases e; exact ⟨by decide, rfl⟩, fun e => (by cases e), h2, h3⟩
    · exact (rel_4 h hs).mono fun e w' ⟨h1, h2, h3⟩ => ⟨_, h1, fun _ e => by cases e; exact ⟨by decide, rfl⟩, fun e => (by cases e), h2, h3⟩
    · exact (rel_5 h hs).mono fun e w' ⟨h1, h2, h3⟩ => ⟨_, h1, fun _ e => by cases e; exact ⟨by decide, rfl⟩, fun e => (by cases e), h2, h3⟩
    · exact (rel_6 h hs).mono fun e w' ⟨h1, h2, h3⟩ => ⟨_, h1, fun _ e => by cases e; exact ⟨by decide, rfl⟩, fun e => (by cases e), h2, h3⟩
theorem gr_ex (ws : List Wd) (P : Pos) : ∃ i P2, GR ws P i P2 := by
  cases P with
  | bad y q => exact ⟨_, _, .bad⟩
  | «at» p =>
    by_cases h : ∃ x ∈ rels, IsS ws p x
    · obtain ⟨x, hx, hs⟩ := h
      obtain ⟨i, hi, rfl⟩ := rels_mem hx
      exact ⟨_, _, .some hi hs⟩
    · exact ⟨_, _, .none fun x hx hs => h ⟨x, hx, hs⟩⟩
theorem gm_ex (ws : List Wd) (P : Pos) : ∃ r, GM ws P r := by
  cases P with
  | bad y q => exact ⟨_, .bad⟩
  | «at» p =>
    by_cases h : ∃ n, IsD ws p n
    · obtain ⟨n, h⟩ := h
      by_cases h0 : n = 0
      · subst h0; exact ⟨_, .zero h⟩
      · exact ⟨_, .ok h h0⟩
    · exact ⟨_, .none fun n hn => h ⟨n, hn⟩⟩
theorem need_ex (ws : List Wd) (x : ByteArray) (P : Pos) : ∃ P', P.need ws x P' := by
  by_cases h : P.stands ws x
  · cases P with
    | bad y q => exact h.elim
    | «at» p => exact ⟨_, .inl ⟨p, rfl, h, rfl⟩⟩
  · exact ⟨_, .inr ⟨h, rfl⟩⟩
theorem GR.from {ws : List Wd} {P P2 : Pos} {i : Option Nat} {N : Nat} (h : GR ws P i P2) (hP : P.from N) : P2.from N := by
  cases h with
  | bad => trivial
  | none _ => trivial
  | some _ _ => exact Nat.le_succ_of_le hP
end Go.Proofs.YtabfhdmcljdjhaaDoor.Gl
