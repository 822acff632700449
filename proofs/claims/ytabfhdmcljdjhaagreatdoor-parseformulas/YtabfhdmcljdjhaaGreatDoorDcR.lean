/- The document's reader: unary whole. -/
import Derived.Test.YtabfhdmcljdjhaaGreatDoorDcQ
namespace Go.Proofs.YtabfhdmcljdjhaaGreatDoor.Gl
open Go.RowKit
set_option linter.unusedVariables false
set_option linter.unusedSimpArgs false

set_option maxRecDepth 100000 in
set_option maxHeartbeats 4000000 in
theorem dun_tru {X : Rx} {N : Nat} {w : World} {p : Nat} {r : Out Fm} (h : Ds X w (.at p)) (hs : IsS X.ws p kTrue) (hr : r = .ok fTrue (p + 1)) : Calls Tryz.prog 38 #[.pointer (some ⟨X.b, 0, none⟩)] w (DFm X w r) := by
    have hbw := h.lt
    have hWw := h.below.size
    have hR1 := rb_new w zF 26
    have h1 := h.alloc (.cells zF 26)
    have hU1 : Bux X.b w (w.alloc (.cells zF 26)) := Bux.of (bal w _)
    subst hr
    have hlt := IsS.lt hs
    have hsm := h.small
    have hn0 : ¬ (Pos.at p).stands X.ws kNot := hs.ne (by decide)
    have hn1 : ¬ (Pos.at p).stands X.ws kEx := hs.ne (by decide)
    have hn2 : ¬ (Pos.at p).stands X.ws kAll := hs.ne (by decide)
    have hn3 : ¬ (Pos.at p).stands X.ws kOpen := hs.ne (by decide)
    go_enter Tryz.func38, Tryz.ntmps38
    go_wp2_with (fail)
    refine (dis_no (x := kNot) h1 hn0).mono ?_
    rintro e w2 ⟨rfl, hB2⟩
    have h2 := h1.keep hB2
    have hR2 := hR1.keep hB2
    have hU2 := hU1.trans (Bux.of hB2)
    clear hB2
    go_wp2_with (fail)
    refine (dis_no (x := kEx) h2 hn1).mono ?_
    rintro e w3 ⟨rfl, hB3⟩
    have h3 := h2.keep hB3
    have hR3 := hR2.keep hB3
    have hU3 := hU2.trans (Bux.of hB3)
    clear hB3
    go_wp2_with (fail)
    refine (dis_no (x := kAll) h3 hn2).mono ?_
    rintro e w4 ⟨rfl, hB4⟩
    have h4 := h3.keep hB4
    have hR4 := hR3.keep hB4
    have hU4 := hU3.trans (Bux.of hB4)
    clear hB4
    go_wp2_with (fail)
    refine (dis_no (x := kOpen) h4 hn3).mono ?_
    rintro e w5 ⟨rfl, hB5⟩
    have h5 := h4.keep hB5
    have hR5 := hR4.keep hB5
    have hU5 := hU4.trans (Bux.of hB5)
    clear hB5
    go_wp2_with (fail)
    refine (dis_yes (x := kTrue) h5 hs).mono ?_
    rintro e w6 ⟨rfl, hB6⟩
    have h6 := h5.keep hB6
    have hR6 := hR5.keep hB6
    have hU6 := hU5.trans (Bux.of hB6)
    clear hB6
    obtain ⟨t1, f1⟩ := txcell h6.at'.2 1 _ rfl
    have hnx := h6.next hlt
    have hR9 := hR6.but hnx.2 (by omega)
    obtain ⟨r0, g0⟩ := txcell hR9 0 _ rfl
    obtain ⟨r1, g1⟩ := txcell hR9 1 _ rfl
    obtain ⟨r2, g2⟩ := txcell hR9 2 _ rfl
    obtain ⟨r3, g3⟩ := txcell hR9 3 _ rfl
    obtain ⟨r4, g4⟩ := txcell hR9 4 _ rfl
    have hRy := rb_five hR9 rfl (.int .i64 0) (.string emp) (.int .i64 0) (.slice none 0 0) (.slice none 0 0)
    obtain ⟨k0, -⟩ := txcell hRy 0 _ rfl
    obtain ⟨k1, -⟩ := txcell hRy 1 _ rfl
    obtain ⟨k2, -⟩ := txcell hRy 2 _ rfl
    obtain ⟨k3, -⟩ := txcell hRy 3 _ rfl
    obtain ⟨k4, -⟩ := txcell hRy 4 _ rfl
    go_wp2
    exact bodyPost_ret (v := .agg #[.int .i64 0, .string emp, .int .i64 0, .slice none 0 0, .slice none 0 0]) (by simp [results, Tryz.results38, go_sem, k0, k1, k2, k3, k4]) rfl ⟨_, _, _, _, _, _, _, _, _, _, rfl, leafF 0 0 emp ⟨by decide, by decide, sz_emp⟩, hnx.1.st5 (by omega) hWw (.int .i64 0) (.string emp) (.int .i64 0) (.slice none 0 0) (.slice none 0 0), (hU6.trans hnx.2).st5 (Nat.le_refl _) (.int .i64 0) (.string emp) (.int .i64 0) (.slice none 0 0) (.slice none 0 0), is_ok rfl⟩
set_option maxRecDepth 100000 in
set_option maxHeartbeats 4000000 in
theorem dun_fls {X : Rx} {N : Nat} {w : World} {p : Nat} {r : Out Fm} (h : Ds X w (.at p)) (hs : IsS X.ws p kFalse) (hr : r = .ok fFalse (p + 1)) : Calls Tryz.prog 38 #[.pointer (some ⟨X.b, 0, none⟩)] w (DFm X w r) := by
    have hbw := h.lt
    have hWw := h.below.size
    have hR1 := rb_new w zF 26
    have h1 := h.alloc (.cells zF 26)
    have hU1 : Bux X.b w (w.alloc (.cells zF 26)) := Bux.of (bal w _)
    subst hr
    have hlt := IsS.lt hs
    have hsm := h.small
    have hn0 : ¬ (Pos.at p).stands X.ws kNot := hs.ne (by decide)
    have hn1 : ¬ (Pos.at p).stands X.ws kEx := hs.ne (by decide)
    have hn2 : ¬ (Pos.at p).stands X.ws kAll := hs.ne (by decide)
    have hn3 : ¬ (Pos.at p).stands X.ws kOpen := hs.ne (by decide)
    have hn4 : ¬ (Pos.at p).stands X.ws kTrue := hs.ne (by decide)
    go_enter Tryz.func38, Tryz.ntmps38
    go_wp2_with (fail)
    refine (dis_no (x := kNot) h1 hn0).mono ?_
    rintro e w2 ⟨rfl, hB2⟩
    have h2 := h1.keep hB2
    have hR2 := hR1.keep hB2
    have hU2 := hU1.trans (Bux.of hB2)
    clear hB2
    go_wp2_with (fail)
    refine (dis_no (x := kEx) h2 hn1).mono ?_
    rintro e w3 ⟨rfl, hB3⟩
    have h3 := h2.keep hB3
    have hR3 := hR2.keep hB3
    have hU3 := hU2.trans (Bux.of hB3)
    clear hB3
    go_wp2_with (fail)
    refine (dis_no (x := kAll) h3 hn2).mono ?_
    rintro e w4 ⟨rfl, hB4⟩
    have h4 := h3.keep hB4
    have hR4 := hR3.keep hB4
    have hU4 := hU3.trans (Bux.of hB4)
    clear hB4
    go_wp2_with (fail)
    refine (dis_no (x := kOpen) h4 hn3).mono ?_
    rintro e w5 ⟨rfl, hB5⟩
    have h5 := h4.keep hB5
    have hR5 := hR4.keep hB5
    have hU5 := hU4.trans (Bux.of hB5)
    clear hB5
    go_wp2_with (fail)
    refine (dis_no (x := kTrue) h5 hn4).mono ?_
    rintro e w6 ⟨rfl, hB6⟩
    have h6 := h5.keep hB6
    have hR6 := hR5.keep hB6
    have hU6 := hU5.trans (Bux.of hB6)
    clear hB6
    go_wp2_with (fail)
    refine (dis_yes (x := kFalse) h6 hs).mono ?_
    rintro e w7 ⟨rfl, hB7⟩
    have h7 := h6.keep hB7
    have hR7 := hR6.keep hB7
    have hU7 := hU6.trans (Bux.of hB7)
    clear hB7
    obtain ⟨t1, f1⟩ := txcell h7.at'.2 1 _ rfl
    have hnx := h7.next hlt
    have hR9 := hR7.but hnx.2 (by omega)
    obtain ⟨r0, g0⟩ := txcell hR9 0 _ rfl
    obtain ⟨r1, g1⟩ := txcell hR9 1 _ rfl
    obtain ⟨r2, g2⟩ := txcell hR9 2 _ rfl
    obtain ⟨r3, g3⟩ := txcell hR9 3 _ rfl
    obtain ⟨r4, g4⟩ := txcell hR9 4 _ rfl
    have hRy := rb_five hR9 rfl (.int .i64 1) (.string emp) (.int .i64 0) (.slice none 0 0) (.slice none 0 0)
    obtain ⟨k0, -⟩ := txcell hRy 0 _ rfl
    obtain ⟨k1, -⟩ := txcell hRy 1 _ rfl
    obtain ⟨k2, -⟩ := txcell hRy 2 _ rfl
    obtain ⟨k3, -⟩ := txcell hRy 3 _ rfl
    obtain ⟨k4, -⟩ := txcell hRy 4 _ rfl
    go_wp2
    exact bodyPost_ret (v := .agg #[.int .i64 1, .string emp, .int .i64 0, .slice none 0 0, .slice none 0 0]) (by simp [results, Tryz.results38, go_sem, k0, k1, k2, k3, k4]) rfl ⟨_, _, _, _, _, _, _, _, _, _, rfl, leafF 1 0 emp ⟨by decide, by decide, sz_emp⟩, hnx.1.st5 (by omega) hWw (.int .i64 1) (.string emp) (.int .i64 0) (.slice none 0 0) (.slice none 0 0), (hU7.trans hnx.2).st5 (Nat.le_refl _) (.int .i64 1) (.string emp) (.int .i64 0) (.slice none 0 0) (.slice none 0 0), is_ok rfl⟩
set_option maxRecDepth 100000 in
set_option maxHeartbeats 4000000 in
theorem dun_atm {X : Rx} {N : Nat} {w : World} {P : Pos} {r : Out Fm} (h : Ds X w P) (hno : ∀ x ∈ uns, ¬ P.stands X.ws x) (AC : ∀ w5, Ds X w5 P → Calls Tryz.prog 70 #[.pointer (some ⟨X.b, 0, none⟩)] w5 (DFm X w5 r)) : Calls Tryz.prog 38 #[.pointer (some ⟨X.b, 0, none⟩)] w (DFm X w r) := by
    have hbw := h.lt
    have hWw := h.below.size
    have hR1 := rb_new w zF 26
    have h1 := h.alloc (.cells zF 26)
    have hU1 : Bux X.b w (w.alloc (.cells zF 26)) := Bux.of (bal w _)
    have SC := mkHid AC
    clear AC
    have hn0 : ¬ P.stands X.ws kNot := hno _ (by simp [uns])
    have hn1 : ¬ P.stands X.ws kEx := hno _ (by simp [uns])
    have hn2 : ¬ P.stands X.ws kAll := hno _ (by simp [uns])
    have hn3 : ¬ P.stands X.ws kOpen := hno _ (by simp [uns])
    have hn4 : ¬ P.stands X.ws kTrue := hno _ (by simp [uns])
    have hn5 : ¬ P.stands X.ws kFalse := hno _ (by simp [uns])
    go_enter Tryz.func38, Tryz.ntmps38
    go_wp2_with (fail)
    refine (dis_no (x := kNot) h1 hn0).mono ?_
    rintro e w2 ⟨rfl, hB2⟩
    have h2 := h1.keep hB2
    have hR2 := hR1.keep hB2
    have hU2 := hU1.trans (Bux.of hB2)
    clear hB2
    go_wp2_with (fail)
    refine (dis_no (x := kEx) h2 hn1).mono ?_
    rintro e w3 ⟨rfl, hB3⟩
    have h3 := h2.keep hB3
    have hR3 := hR2.keep hB3
    have hU3 := hU2.trans (Bux.of hB3)
    clear hB3
    go_wp2_with (fail)
    refine (dis_no (x := kAll) h3 hn2).mono ?_
    rintro e w4 ⟨rfl, hB4⟩
    have h4 := h3.keep hB4
    have hR4 := hR3.keep hB4
    have hU4 := hU3.trans (Bux.of hB4)
    clear hB4
    go_wp2_with (fail)
    refine (dis_no (x := kOpen) h4 hn3).mono ?_
    rintro e w5 ⟨rfl, hB5⟩
    have h5 := h4.keep hB5
    have hR5 := hR4.keep hB5
    have hU5 := hU4.trans (Bux.of hB5)
    clear hB5
    go_wp2_with (fail)
    refine (dis_no (x := kTrue) h5 hn4).mono ?_
    rintro e w6 ⟨rfl, hB6⟩
    have h6 := h5.keep hB6
    have hR6 := hR5.keep hB6
    have hU6 := hU5.trans (Bux.of hB6)
    clear hB6
    go_wp2_with (fail)
    refine (dis_no (x := kFalse) h6 hn5).mono ?_
    rintro e w7 ⟨rfl, hB7⟩
    have h7 := h6.keep hB7
    have hR7 := hR6.keep hB7
    have hU7 := hU6.trans (Bux.of hB7)
    clear hB7
    go_wp2_with (fail)
    refine (SC.out _ h7).mono ?_
    rintro e w9 ⟨o, xs, m, bo, n1, c1, ao, n, c, f, rfl, hV9, h9, hC9, hf⟩
    have hs7 := (Array.getElem?_eq_some_iff.1 hR7).1
    have hR10 := hR7.but hC9 (by omega)
    have hU10 := hU7.trans hC9
    have hV10 : RdFn (fun k => w.heap.size < k) w9 f (.int .i64 o) (.string xs) (.int .i64 m) (.slice bo n1 c1) (.slice ao n c) := RdFn.low (fun k _ (hg : _ ≤ k) => by omega) _ _ _ _ _ _ hV9
    obtain ⟨r0, g0⟩ := txcell hR10 0 _ rfl
    obtain ⟨r1, g1⟩ := txcell hR10 1 _ rfl
    obtain ⟨r2, g2⟩ := txcell hR10 2 _ rfl
    obtain ⟨r3, g3⟩ := txcell hR10 3 _ rfl
    obtain ⟨r4, g4⟩ := txcell hR10 4 _ rfl
    have hRy := rb_five hR10 rfl (.int .i64 o) (.string xs) (.int .i64 m) (.slice bo n1 c1) (.slice ao n c)
    obtain ⟨k0, -⟩ := txcell hRy 0 _ rfl
    obtain ⟨k1, -⟩ := txcell hRy 1 _ rfl
    obtain ⟨k2, -⟩ := txcell hRy 2 _ rfl
    obtain ⟨k3, -⟩ := txcell hRy 3 _ rfl
    obtain ⟨k4, -⟩ := txcell hRy 4 _ rfl
    go_wp2
    exact bodyPost_ret (v := .agg #[.int .i64 o, .string xs, .int .i64 m, .slice bo n1 c1, .slice ao n c]) (by simp [results, Tryz.results38, go_sem, k0, k1, k2, k3, k4]) rfl ⟨o, xs, m, bo, n1, c1, ao, n, c, f, rfl, RdFn.low (fun k _ (hk : w.heap.size < k) => Nat.le_of_lt hk) _ _ _ _ _ _ (RdFn.keep (Hi.st5 (fun k (hk : w.heap.size < k) => by omega) w9 (.int .i64 o) (.string xs) (.int .i64 m) (.slice bo n1 c1) (.slice ao n c)) _ _ _ _ _ _ hV10), h9.st5 (by omega) hWw (.int .i64 o) (.string xs) (.int .i64 m) (.slice bo n1 c1) (.slice ao n c), hU10.st5 (Nat.le_refl _) (.int .i64 o) (.string xs) (.int .i64 m) (.slice bo n1 c1) (.slice ao n c), hf⟩
theorem dun_step {X : Rx} {N : Nat} (A : DAtm X N) (Q7 : DQu 7 X N) (Q8 : DQu 8 X N) (I : N < X.ws.length → DUn X (N + 1) ∧ DLev 0 X (N + 1)) : DUn X N := by
  intro w P r h hP hr
  cases P with
  | bad y q =>
    cases hr with
    | bad => exact dun_atm (N := 0) h (fun x _ hs => hs) (fun w5 h5 => A w5 _ _ h5 hP .bad)
  | «at» p =>
    have hN : N ≤ p := hP
    cases gu_of hr with
    | not hs hx =>
      obtain ⟨r', hr', hp, hi⟩ := hx
      have hlt := hs.lt
      exact dun_not (N := 0) h hs (fun w5 h5 => (I (by omega)).1 w5 _ r' h5 (by show N + 1 ≤ p + 1; omega) hr') hp hi
    | qu hx hs hq =>
      have hlt := hs.lt
      rcases hx with ⟨rfl, rfl⟩ | ⟨rfl, rfl⟩
      · exact dun_ex (N := 0) h hs (fun w5 h5 => Q7 w5 p r h5 hlt hN hq)
      · exact dun_all (N := 0) h hs (fun w5 h5 => Q8 w5 p r h5 hlt hN hq)
    | br hs hx =>
      obtain ⟨r', hr', hn, hi⟩ := hx
      have hlt := hs.lt
      exact dun_br (N := 0) h hs (fun w5 h5 => (I (by omega)).2 w5 _ r' h5 (by show N + 1 ≤ p + 1; omega) hr') hn hi
    | tru hs e => exact dun_tru (N := 0) h hs e
    | fls hs e => exact dun_fls (N := 0) h hs e
    | atom hno ha => exact dun_atm (N := 0) h (fun x hx => hno x hx) (fun w5 h5 => A w5 _ r h5 hP ha)
end Go.Proofs.YtabfhdmcljdjhaaGreatDoor.Gl
