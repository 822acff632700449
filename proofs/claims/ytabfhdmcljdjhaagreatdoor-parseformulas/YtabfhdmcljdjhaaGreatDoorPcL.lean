/- The landed reader: factor; terms whole. -/
import Derived.Test.YtabfhdmcljdjhaaGreatDoorPcJ
namespace Go.Proofs.YtabfhdmcljdjhaaGreatDoor.Gl
open Go.RowKit
set_option linter.unusedVariables false
set_option linter.unusedSimpArgs false

theorem wd_num {X : Rx} {w : World} {p n : Nat} (h : Ps X w (.at p)) (hd : IsD X.ws p n) : ∃ tx, ∃ by' ch : Nat, Calls Tryz.prog 53 #[.pointer (some ⟨X.b, 0, none⟩)] w fun e w' => e = .returned (.agg #[.int .i64 1, .string tx, .int .i64 (n : Nat), .int .i64 (by' : Nat), .int .i64 (ch : Nat)]) ∧ Below w.heap.size w w' := by
  obtain ⟨tx, by', ch, hw⟩ := hd_num hd
  exact ⟨tx, by', ch, first_at h _ hw⟩
theorem wd_name {X : Rx} {w : World} {p : Nat} {x : ByteArray} (h : Ps X w (.at p)) (hd : IsN X.ws p x) : ∃ nu by' ch : Nat, Calls Tryz.prog 53 #[.pointer (some ⟨X.b, 0, none⟩)] w fun e w' => e = .returned (.agg #[.int .i64 0, .string x, .int .i64 (nu : Nat), .int .i64 (by' : Nat), .int .i64 (ch : Nat)]) ∧ Below w.heap.size w w' := by
  obtain ⟨nu, by', ch, hw⟩ := hd_name hd
  exact ⟨nu, by', ch, first_at h _ hw⟩
set_option maxRecDepth 100000 in
set_option maxHeartbeats 4000000 in
theorem factor_step {X : Rx} {N : Nat} (hW : WdOk X.ws) (I : N < X.ws.length → FacC X (N + 1) ∧ SumC X (N + 1)) : FacC X N := by
  intro w P r h hP hr
  have hbw := h.lt
  have hWw := h.below.size
  have hR1 := rb_new w zT 43
  have h1 := h.alloc (.cells zT 43)
  have hB1 : Bux X.b w (w.alloc (.cells zT 43)) := Bux.of (bal w _)
  by_cases k1 : P.kinds X.ws 1
  · obtain ⟨p, n, rfl, hd⟩ := isD_kinds k1
    obtain rfl := gt_num hr hd
    obtain ⟨tx, by', ch, FC0⟩ := wd_num h1 hd
    have FC := mkHid FC0
    have hlt := hd.lt
    have hnn := hW.num hd
    clear FC0 k1 hr hd I
    go_enter Tryz.func72, Tryz.ntmps72
    go_wp2_with (first
      | (go_at_call 53; refine (FC.out).mono ?_; rintro e w2 ⟨rfl, hB2⟩; have h2 := h1.keep hB2; have hR2 := hR1.keep hB2; have hU2 := hB1.trans (Bux.of hB2); have hs2 := hB2.size; have hX3 := rb_new w2 #[.int .i64 1, .string tx, .int .i64 (n : Nat), .int .i64 (by' : Nat), .int .i64 (ch : Nat)] 87; rw [World.size_alloc] at hs2)
      | (go_at_call 55; refine (pass_at (h2.alloc _) hlt).mono ?_; rintro e w4 ⟨rfl, h4, hC4⟩; have hX4 := hX3.but hC4 (by omega); have hR4 := (hR2.keep (bal w2 _)).but hC4 (by omega); have hU4 := (hU2.trans (Bux.of (bal w2 _))).trans hC4; obtain ⟨x2, -⟩ := txcell hX4 2 _ rfl; obtain ⟨r0, g0⟩ := txcell hR4 0 _ rfl; obtain ⟨r1, g1⟩ := txcell hR4 1 _ rfl; obtain ⟨r2, g2⟩ := txcell hR4 2 _ rfl; obtain ⟨r3, g3⟩ := txcell hR4 3 _ rfl; have hRy := rb_four hR4 rfl (.int .i64 0) (.int .i64 (n : Nat)) (.string emp) (.slice none 0 0); obtain ⟨k0, -⟩ := txcell hRy 0 _ rfl; obtain ⟨k1, -⟩ := txcell hRy 1 _ rfl; obtain ⟨k2, -⟩ := txcell hRy 2 _ rfl; obtain ⟨k3, -⟩ := txcell hRy 3 _ rfl))
    exact bodyPost_ret (v := .agg #[.int .i64 0, .int .i64 (n : Nat), .string emp, .slice none 0 0]) (by simp [results, Tryz.results72, go_sem, k0, k1, k2, k3]) rfl ⟨_, _, _, _, _, _, _, rfl, leafT 0 n emp ⟨by decide, ⟨by omega, by omega⟩, sz_emp⟩, h4.st4 (by omega) hWw (.int .i64 0) (.int .i64 (n : Nat)) (.string emp) (.slice none 0 0), hU4.st4 (Nat.le_refl _) (.int .i64 0) (.int .i64 (n : Nat)) (.string emp) (.slice none 0 0), is_ok rfl⟩
  by_cases k0 : P.kinds X.ws 0
  · obtain ⟨p, x, rfl, hd⟩ := isN_kinds k0
    obtain rfl := gt_name hr hd
    obtain ⟨nu, by', ch, FC0⟩ := wd_name h1 hd
    have FC := mkHid FC0
    have hlt := hd.lt
    have hnn := hW.name hd
    clear FC0 k1 k0 hr hd I
    go_enter Tryz.func72, Tryz.ntmps72
    go_wp2_with (first
      | (go_at_call 53; refine (FC.out).mono ?_; rintro e w2 ⟨rfl, hB2⟩; have h2 := h1.keep hB2; have hR2 := hR1.keep hB2; have hU2 := hB1.trans (Bux.of hB2); have hs2 := hB2.size; have hX3 := rb_new w2 #[.int .i64 0, .string x, .int .i64 (nu : Nat), .int .i64 (by' : Nat), .int .i64 (ch : Nat)] 87; rw [World.size_alloc] at hs2)
      | (go_at_call 55; refine (pass_at (h2.alloc _) hlt).mono ?_; rintro e w4 ⟨rfl, h4, hC4⟩; have hX4 := hX3.but hC4 (by omega); have hR4 := (hR2.keep (bal w2 _)).but hC4 (by omega); have hU4 := (hU2.trans (Bux.of (bal w2 _))).trans hC4; obtain ⟨x2, -⟩ := txcell hX4 1 _ rfl; obtain ⟨r0, g0⟩ := txcell hR4 0 _ rfl; obtain ⟨r1, g1⟩ := txcell hR4 1 _ rfl; obtain ⟨r2, g2⟩ := txcell hR4 2 _ rfl; obtain ⟨r3, g3⟩ := txcell hR4 3 _ rfl; have hRy := rb_four hR4 rfl (.int .i64 1) (.int .i64 0) (.string x) (.slice none 0 0); obtain ⟨k0, -⟩ := txcell hRy 0 _ rfl; obtain ⟨k1, -⟩ := txcell hRy 1 _ rfl; obtain ⟨k2, -⟩ := txcell hRy 2 _ rfl; obtain ⟨k3, -⟩ := txcell hRy 3 _ rfl))
    exact bodyPost_ret (v := .agg #[.int .i64 1, .int .i64 0, .string x, .slice none 0 0]) (by simp [results, Tryz.results72, go_sem, k0, k1, k2, k3]) rfl ⟨_, _, _, _, _, _, _, rfl, leafT 1 0 x ⟨by decide, by decide, hnn⟩, h4.st4 (by omega) hWw (.int .i64 1) (.int .i64 0) (.string x) (.slice none 0 0), hU4.st4 (Nat.le_refl _) (.int .i64 1) (.int .i64 0) (.string x) (.slice none 0 0), is_ok rfl⟩
  obtain ⟨kd, nu, by', ch, tx, hkd, FC0⟩ := first_kd h1
  have FC := mkHid FC0
  have hk1 : ((kd : Int) == 1) = false := by rw [beq_eq_false_iff_ne]; have := mt (hkd 1 (by decide)).1 k1; omega
  have hk0 : ((kd : Int) == 0) = false := by rw [beq_eq_false_iff_ne]; have := mt (hkd 0 (by decide)).1 k0; omega
  clear FC0 hkd
  by_cases hq : P.stands X.ws kSq
  · cases P with
    | bad y q => exact hq.elim
    | «at» p =>
      obtain ⟨r', hr', hn', hi'⟩ := gt_sq hr hq
      have hlt := IsS.lt hq
      have hPN : N ≤ p := hP
      have SC := mkHid (fun w5 (h5 : Ps X w5 (.at (p + 1))) => (I (by omega)).2 w5 (.at (p + 1)) r' h5 (by show N + 1 ≤ p + 1; omega) hr')
      have HI := mkHid hi'
      have HN := mkHid hn'
      clear hr hr' hi' hn' k1 k0 I
      go_enter Tryz.func72, Tryz.ntmps72
      go_wp2_with (first
        | (go_at_call 53; refine (FC.out).mono ?_; rintro e w2 ⟨rfl, hB2⟩; have h2 := (h1.keep hB2).alloc (.cells #[.int .i64 (kd : Nat), .string tx, .int .i64 (nu : Nat), .int .i64 (by' : Nat), .int .i64 (ch : Nat)] 87); have hR2 := (hR1.keep hB2).keep (bal w2 (.cells #[.int .i64 (kd : Nat), .string tx, .int .i64 (nu : Nat), .int .i64 (by' : Nat), .int .i64 (ch : Nat)] 87)); have hU2 := (hB1.trans (Bux.of hB2)).trans (Bux.of (bal w2 (.cells #[.int .i64 (kd : Nat), .string tx, .int .i64 (nu : Nat), .int .i64 (by' : Nat), .int .i64 (ch : Nat)] 87))))
        | (go_at_call 31; refine (takes_yes (x := kSq) h2 hq).mono ?_; rintro e w4 ⟨rfl, h4, hC4⟩; have hR4 := hR2.but hC4 (by omega); have hU4 := hU2.trans hC4)
        | (go_at_call 23; refine (SC.out _ h4).mono ?_; rintro e w5 ⟨o, m, xs, lo, ln, lc, x, rfl, hV5, h5, hC5, hx⟩; have hR5 := (hR4.but hC5 (by omega)).keep (bal w5 (.cells #[.int .i64 o, .int .i64 m, .string xs, .slice lo ln lc] 43)); have hU5 := (hU4.trans hC5).trans (Bux.of (bal w5 (.cells #[.int .i64 o, .int .i64 m, .string xs, .slice lo ln lc] 43))); have hX5 := rb_new w5 #[.int .i64 o, .int .i64 m, .string xs, .slice lo ln lc] 43; have hs4 := (Array.getElem?_eq_some_iff.1 hR4).1; have hs5 := hC5.size; have hW5 : RdTn (fun k => w.heap.size < k) (w5.alloc (.cells #[.int .i64 o, .int .i64 m, .string xs, .slice lo ln lc] 43)) x (.int .i64 o) (.int .i64 m) (.string xs) (.slice lo ln lc) := RdTn.keep (Hi.of (bal w5 _)) _ _ _ _ _ (RdTn.low (fun k _ (hg : _ ≤ k) => by omega) _ _ _ _ _ hV5))
        | (go_at_call 94; refine (needs_at (x := kQs) (h5.alloc _) (by decide) HN.out).mono ?_; rintro e w6 ⟨rfl, h6, hC6⟩; have hR6 := hR5.but hC6 (by omega); have hX6 := hX5.but hC6 (by omega); have hU6 := hU5.trans hC6; have hV6 := RdTn.keep (Hi.but hC6 (fun k (hk : w.heap.size < k) => by omega)) _ _ _ _ _ hW5; obtain ⟨x0, -⟩ := txcell hX6 0 _ rfl; obtain ⟨x1, -⟩ := txcell hX6 1 _ rfl; obtain ⟨x2, -⟩ := txcell hX6 2 _ rfl; obtain ⟨x3, -⟩ := txcell hX6 3 _ rfl; obtain ⟨r0, g0⟩ := txcell hR6 0 _ rfl; obtain ⟨r1, g1⟩ := txcell hR6 1 _ rfl; obtain ⟨r2, g2⟩ := txcell hR6 2 _ rfl; obtain ⟨r3, g3⟩ := txcell hR6 3 _ rfl; have hRy := rb_four hR6 rfl (.int .i64 o) (.int .i64 m) (.string xs) (.slice lo ln lc); obtain ⟨k0, -⟩ := txcell hRy 0 _ rfl; obtain ⟨k1, -⟩ := txcell hRy 1 _ rfl; obtain ⟨k2, -⟩ := txcell hRy 2 _ rfl; obtain ⟨k3, -⟩ := txcell hRy 3 _ rfl))
      exact bodyPost_ret (v := .agg #[.int .i64 o, .int .i64 m, .string xs, .slice lo ln lc]) (by simp [results, Tryz.results72, go_sem, k0, k1, k2, k3]) rfl ⟨o, m, xs, lo, ln, lc, x, rfl, RdTn.low (fun k _ (hk : w.heap.size < k) => Nat.le_of_lt hk) _ _ _ _ _ (RdTn.keep (Hi.st4 (fun k (hk : w.heap.size < k) => by omega) w6 (.int .i64 o) (.int .i64 m) (.string xs) (.slice lo ln lc)) _ _ _ _ _ hV6), h6.st4 (by omega) hWw (.int .i64 o) (.int .i64 m) (.string xs) (.slice lo ln lc), hU6.st4 (Nat.le_refl _) (.int .i64 o) (.int .i64 m) (.string xs) (.slice lo ln lc), HI.out x hx⟩
  by_cases hm : P.stands X.ws kMinus
  · cases P with
    | bad y q => exact hm.elim
    | «at» p =>
      obtain ⟨r', hr', hp', hi'⟩ := gt_neg hr hm
      have hlt := IsS.lt hm
      have hPN : N ≤ p := hP
      have SC := mkHid (fun w5 (h5 : Ps X w5 (.at (p + 1))) => (I (by omega)).1 w5 (.at (p + 1)) r' h5 (by show N + 1 ≤ p + 1; omega) hr')
      have HI := mkHid hi'
      have HP := mkHid hp'
      clear hr hr' hi' hp' k1 k0 I
      go_enter Tryz.func72, Tryz.ntmps72
      go_wp2_with (go_at_call 53; refine (FC.out).mono ?_; rintro e w2 ⟨rfl, hB2⟩; have h2 := (h1.keep hB2).alloc (.cells #[.int .i64 (kd : Nat), .string tx, .int .i64 (nu : Nat), .int .i64 (by' : Nat), .int .i64 (ch : Nat)] 87); have hR2 := (hR1.keep hB2).keep (bal w2 (.cells #[.int .i64 (kd : Nat), .string tx, .int .i64 (nu : Nat), .int .i64 (by' : Nat), .int .i64 (ch : Nat)] 87)); have hU2 := (hB1.trans (Bux.of hB2)).trans (Bux.of (bal w2 (.cells #[.int .i64 (kd : Nat), .string tx, .int .i64 (nu : Nat), .int .i64 (by' : Nat), .int .i64 (ch : Nat)] 87))))
      refine (takes_no (x := kSq) h2 (by decide) hq).mono ?_
      rintro e w3 ⟨rfl, h3, hB3⟩
      go_wp2_with (fail)
      refine (takes_yes (x := kMinus) h3 hm).mono ?_
      rintro e w4 ⟨rfl, h4, hC4⟩
      have hR4 := (hR2.keep hB3).but hC4 (by omega)
      have hU4 := (hU2.trans (Bux.of hB3)).trans hC4
      clear hB3 hR2 hU2
      go_wp2_with (first
        | (go_at_call 72; refine (SC.out _ h4).mono ?_; rintro e w5 ⟨o, m, xs, lo, ln, lc, x, rfl, hV5, h5, hC5, hx⟩; have hR5 := (hR4.but hC5 (by omega)).keep (bal w5 (.cells #[.int .i64 o, .int .i64 m, .string xs, .slice lo ln lc] 43)); have hU5 := (hU4.trans hC5).trans (Bux.of (bal w5 (.cells #[.int .i64 o, .int .i64 m, .string xs, .slice lo ln lc] 43))); have hs4 := (Array.getElem?_eq_some_iff.1 hR4).1; have hs5 := hC5.size; have hW5 := mk1 (t := 43) (RdTn.low (P' := fun k => w.heap.size < k) (fun k _ (hg : _ ≤ k) => by omega) _ _ _ _ _ hV5) rfl (by omega) 2 0 emp ⟨by decide, by decide, sz_emp⟩)
        | (go_at_call 45; refine (combine_at _ _ _ _ _).mono ?_; rintro e w6 ⟨rfl, hB6⟩; have h6 := (h5.alloc _).keep hB6; have hR6 := hR5.keep hB6; have hU6 := hU5.trans (Bux.of hB6); have hV6 := RdTn.keep (Hi.of hB6) _ _ _ _ _ hW5; obtain ⟨r0, g0⟩ := txcell hR6 0 _ rfl; obtain ⟨r1, g1⟩ := txcell hR6 1 _ rfl; obtain ⟨r2, g2⟩ := txcell hR6 2 _ rfl; obtain ⟨r3, g3⟩ := txcell hR6 3 _ rfl; have hRy := rb_four hR6 rfl (.int .i64 2) (.int .i64 0) (.string emp) (.slice (some ⟨w5.heap.size, 0, none⟩) 1 1); obtain ⟨k0, -⟩ := txcell hRy 0 _ rfl; obtain ⟨k1, -⟩ := txcell hRy 1 _ rfl; obtain ⟨k2, -⟩ := txcell hRy 2 _ rfl; obtain ⟨k3, -⟩ := txcell hRy 3 _ rfl))
      exact bodyPost_ret (v := .agg #[.int .i64 2, .int .i64 0, .string emp, .slice (some ⟨w5.heap.size, 0, none⟩) 1 1]) (by simp [results, Tryz.results72, go_sem, k0, k1, k2, k3]) rfl ⟨_, _, _, _, _, _, _, rfl, RdTn.low (fun k _ (hk : w.heap.size < k) => Nat.le_of_lt hk) _ _ _ _ _ (RdTn.keep (Hi.st4 (fun k (hk : w.heap.size < k) => by omega) w6 (.int .i64 2) (.int .i64 0) (.string emp) (.slice (some ⟨w5.heap.size, 0, none⟩) 1 1)) _ _ _ _ _ hV6), by rw [HP.out]; exact h6.st4 (by omega) hWw (.int .i64 2) (.int .i64 0) (.string emp) (.slice (some ⟨w5.heap.size, 0, none⟩) 1 1), hU6.st4 (Nat.le_refl _) (.int .i64 2) (.int .i64 0) (.string emp) (.slice (some ⟨w5.heap.size, 0, none⟩) 1 1), HI.out x hx⟩
  obtain ⟨hp', hi'⟩ := gt_none hr k1 k0 hq hm
  have HI := mkHid hi'
  have HP := mkHid hp'
  clear hr hp' hi' k1 k0 I
  go_enter Tryz.func72, Tryz.ntmps72
  go_wp2_with (go_at_call 53; refine (FC.out).mono ?_; rintro e w2 ⟨rfl, hB2⟩; have h2 := (h1.keep hB2).alloc (.cells #[.int .i64 (kd : Nat), .string tx, .int .i64 (nu : Nat), .int .i64 (by' : Nat), .int .i64 (ch : Nat)] 87); have hR2 := (hR1.keep hB2).keep (bal w2 (.cells #[.int .i64 (kd : Nat), .string tx, .int .i64 (nu : Nat), .int .i64 (by' : Nat), .int .i64 (ch : Nat)] 87)); have hU2 := (hB1.trans (Bux.of hB2)).trans (Bux.of (bal w2 (.cells #[.int .i64 (kd : Nat), .string tx, .int .i64 (nu : Nat), .int .i64 (by' : Nat), .int .i64 (ch : Nat)] 87))))
  refine (takes_no (x := kSq) h2 (by decide) hq).mono ?_
  rintro e w3 ⟨rfl, h3, hB3⟩
  go_wp2_with (fail)
  refine (takes_no (x := kMinus) h3 (by decide) hm).mono ?_
  rintro e w4 ⟨rfl, h4, hB4⟩
  have hR4 := (hR2.keep hB3).keep hB4
  have hU4 := (hU2.trans (Bux.of hB3)).trans (Bux.of hB4)
  clear hB3 hR2 hU2
  go_wp2_with (go_at_call 29; refine (refuse_any h4 71 (by decide)).mono ?_; rintro e w6 ⟨rfl, h6, hC6⟩; have hR6 := hR4.but hC6 (by omega); have hU6 := hU4.trans hC6; obtain ⟨r0, g0⟩ := txcell hR6 0 _ rfl; obtain ⟨r1, g1⟩ := txcell hR6 1 _ rfl; obtain ⟨r2, g2⟩ := txcell hR6 2 _ rfl; obtain ⟨r3, g3⟩ := txcell hR6 3 _ rfl; have hRy := rb_four hR6 rfl (.int .i64 0) (.int .i64 0) (.string emp) (.slice none 0 0); obtain ⟨k0, -⟩ := txcell hRy 0 _ rfl; obtain ⟨k1, -⟩ := txcell hRy 1 _ rfl; obtain ⟨k2, -⟩ := txcell hRy 2 _ rfl; obtain ⟨k3, -⟩ := txcell hRy 3 _ rfl)
  exact bodyPost_ret (v := .agg #[.int .i64 0, .int .i64 0, .string emp, .slice none 0 0]) (by simp [results, Tryz.results72, go_sem, k0, k1, k2, k3]) rfl ⟨_, _, _, _, _, _, _, rfl, leafT 0 0 emp ⟨by decide, by decide, sz_emp⟩, by rw [HP.out]; exact h6.st4 (by omega) hWw (.int .i64 0) (.int .i64 0) (.string emp) (.slice none 0 0), hU6.st4 (Nat.le_refl _) (.int .i64 0) (.int .i64 0) (.string emp) (.slice none 0 0), HI.out _⟩
/-- terms, from every place on -/
theorem terms_all {X : Rx} (hW : WdOk X.ws) : ∀ m N, X.ws.length + 1 ≤ N + m → FacC X N ∧ ProC X N ∧ SumC X N := by
  intro m
  induction m with
  | zero =>
    intro N hN
    have f := factor_step (N := N) hW (fun h => absurd h (by omega))
    exact ⟨f, product_step f, sum_step (product_step f)⟩
  | succ m ih =>
    intro N hN
    have f := factor_step (N := N) hW (fun _ => ⟨(ih (N + 1) (by omega)).1, (ih (N + 1) (by omega)).2.2⟩)
    exact ⟨f, product_step f, sum_step (product_step f)⟩
theorem term_all {X : Rx} (hW : WdOk X.ws) : SumC X 0 := (terms_all hW (X.ws.length + 1) 0 (by omega)).2.2
end Go.Proofs.YtabfhdmcljdjhaaGreatDoor.Gl
