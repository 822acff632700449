/- The document's reader: factor; terms whole. -/
import Derived.Test.YtabfhdmcljdjhaaGreatDoorDcC
import Derived.Test.YtabfhdmcljdjhaaGreatDoorPcL
import Derived.Test.YtabfhdmcljdjhaaGreatDoorPaA
import Derived.Laws.BytesString
import Derived.Laws.Rows
namespace Go.Proofs.YtabfhdmcljdjhaaGreatDoor.Gl
open Go.RowKit
set_option linter.unusedVariables false
set_option linter.unusedSimpArgs false

set_option maxRecDepth 100000 in
set_option maxHeartbeats 4000000 in
theorem dfac_sq {X : Rx} {N : Nat} (I : N < X.ws.length → DFac X (N + 1) ∧ DSum X (N + 1)) {w : World} {p : Nat} {r : Out Tm} (h : Ds X w (.at p)) (hP : N ≤ p) (hr : GT X.ws .fac (.at p) r) (hq : IsS X.ws p kSq) : Calls Tryz.prog 75 #[.pointer (some ⟨X.b, 0, none⟩)] w (DTm X w r) := by
    have hbw := h.lt
    have hWw := h.below.size
    have hR1 := rb_new w zT 43
    have h1 := h.alloc (.cells zT 43)
    have hU1 : Bux X.b w (w.alloc (.cells zT 43)) := Bux.of (bal w _)
    obtain ⟨r', hr', hn', hi'⟩ := gt_sq hr hq
    have hlt := IsS.lt hq
    have SC := mkHid (fun w5 (h5 : Ds X w5 (.at (p + 1))) => (I (by omega)).2 w5 (.at (p + 1)) r' h5 (by show N + 1 ≤ p + 1; omega) hr')
    have HI := mkHid hi'
    have HN := mkHid hn'
    have hsm := h.small
    clear hr hr' hi' hn' I
    go_enter Tryz.func75, Tryz.ntmps75
    go_wp2_with (fail)
    refine (dis_yes (x := kSq) h1 hq).mono ?_
    rintro e w2 ⟨rfl, hB2⟩
    have h2 := h1.keep hB2
    have hR2 := hR1.keep hB2
    have hU2 := hU1.trans (Bux.of hB2)
    clear hB2
    obtain ⟨t1, f1⟩ := txcell h2.at'.2 1 _ rfl
    go_wp2_with (fail)
    obtain ⟨h3, hC3⟩ := h2.next hlt
    clear t1 f1
    have hR3 := hR2.but hC3 (by omega)
    have hU3 := hU2.trans hC3
    clear hC3
    generalize w2.setCell ⟨X.b, 1, none⟩ (.int .i64 ((p : Int) + 1)) = w3 at h3 hR3 hU3 ⊢
    refine (SC.out _ h3).mono ?_
    rintro e w5 ⟨o, m, xs, lo, ln, lc, x, rfl, hV5, h5, hC5, hx⟩
    have hR5 := (hR3.but hC5 (by omega)).keep (bal w5 (.cells #[.int .i64 o, .int .i64 m, .string xs, .slice lo ln lc] 43))
    have hU5 := (hU3.trans hC5).trans (Bux.of (bal w5 (.cells #[.int .i64 o, .int .i64 m, .string xs, .slice lo ln lc] 43)))
    have hX5 := rb_new w5 #[.int .i64 o, .int .i64 m, .string xs, .slice lo ln lc] 43
    have hs4 := (Array.getElem?_eq_some_iff.1 hR3).1
    have hs5 := hC5.size
    have hW5 : RdTn (fun k => w.heap.size < k) (w5.alloc (.cells #[.int .i64 o, .int .i64 m, .string xs, .slice lo ln lc] 43)) x (.int .i64 o) (.int .i64 m) (.string xs) (.slice lo ln lc) := RdTn.keep (Hi.of (bal w5 _)) _ _ _ _ _ (RdTn.low (fun k _ (hg : _ ≤ k) => by omega) _ _ _ _ _ hV5)
    go_wp2_with (fail)
    refine (dpast_at (x := kQs) (h5.alloc _) HN.out).mono ?_
    rintro e w6 ⟨rfl, h6, hC6⟩
    have hR6 := hR5.but hC6 (by omega)
    have hX6 := hX5.but hC6 (by omega)
    have hU6 := hU5.trans hC6
    have hV6 := RdTn.keep (Hi.but hC6 (fun k (hk : w.heap.size < k) => by omega)) _ _ _ _ _ hW5
    obtain ⟨x0, -⟩ := txcell hX6 0 _ rfl
    obtain ⟨x1, -⟩ := txcell hX6 1 _ rfl
    obtain ⟨x2, -⟩ := txcell hX6 2 _ rfl
    obtain ⟨x3, -⟩ := txcell hX6 3 _ rfl
    obtain ⟨r0, g0⟩ := txcell hR6 0 _ rfl
    obtain ⟨r1, g1⟩ := txcell hR6 1 _ rfl
    obtain ⟨r2, g2⟩ := txcell hR6 2 _ rfl
    obtain ⟨r3, g3⟩ := txcell hR6 3 _ rfl
    have hRy := rb_four hR6 rfl (.int .i64 o) (.int .i64 m) (.string xs) (.slice lo ln lc)
    obtain ⟨k0, -⟩ := txcell hRy 0 _ rfl
    obtain ⟨k1, -⟩ := txcell hRy 1 _ rfl
    obtain ⟨k2, -⟩ := txcell hRy 2 _ rfl
    obtain ⟨k3, -⟩ := txcell hRy 3 _ rfl
    go_wp2
    exact bodyPost_ret (v := .agg #[.int .i64 o, .int .i64 m, .string xs, .slice lo ln lc]) (by simp [results, Tryz.results75, go_sem, k0, k1, k2, k3]) rfl ⟨o, m, xs, lo, ln, lc, x, rfl, RdTn.low (fun k _ (hk : w.heap.size < k) => Nat.le_of_lt hk) _ _ _ _ _ (RdTn.keep (Hi.st4 (fun k (hk : w.heap.size < k) => by omega) w6 (.int .i64 o) (.int .i64 m) (.string xs) (.slice lo ln lc)) _ _ _ _ _ hV6), h6.st4 (by omega) hWw (.int .i64 o) (.int .i64 m) (.string xs) (.slice lo ln lc), hU6.st4 (Nat.le_refl _) (.int .i64 o) (.int .i64 m) (.string xs) (.slice lo ln lc), HI.out x hx⟩
set_option maxRecDepth 100000 in
set_option maxHeartbeats 4000000 in
theorem dfac_neg {X : Rx} {N : Nat} (I : N < X.ws.length → DFac X (N + 1) ∧ DSum X (N + 1)) {w : World} {p : Nat} {r : Out Tm} (h : Ds X w (.at p)) (hP : N ≤ p) (hr : GT X.ws .fac (.at p) r) (hm : IsS X.ws p kMinus) : Calls Tryz.prog 75 #[.pointer (some ⟨X.b, 0, none⟩)] w (DTm X w r) := by
    have hbw := h.lt
    have hWw := h.below.size
    have hR1 := rb_new w zT 43
    have h1 := h.alloc (.cells zT 43)
    have hU1 : Bux X.b w (w.alloc (.cells zT 43)) := Bux.of (bal w _)
    obtain ⟨r', hr', hp', hi'⟩ := gt_neg hr hm
    have hlt := IsS.lt hm
    have hq : ¬ (Pos.at p).stands X.ws kSq := hm.ne sq_minus.symm
    have SC := mkHid (fun w5 (h5 : Ds X w5 (.at (p + 1))) => (I (by omega)).1 w5 (.at (p + 1)) r' h5 (by show N + 1 ≤ p + 1; omega) hr')
    have HI := mkHid hi'
    have HP := mkHid hp'
    have hsm := h.small
    clear hr hr' hi' hp' I
    go_enter Tryz.func75, Tryz.ntmps75
    go_wp2_with (fail)
    refine (dis_no (x := kSq) h1 hq).mono ?_
    rintro e w2 ⟨rfl, hB2⟩
    have h2 := h1.keep hB2
    have hR2 := hR1.keep hB2
    have hU2 := hU1.trans (Bux.of hB2)
    clear hB2
    go_wp2_with (fail)
    refine (dis_yes (x := kMinus) h2 hm).mono ?_
    rintro e w3 ⟨rfl, hB3⟩
    have h3 := h2.keep hB3
    have hR3 := hR2.keep hB3
    have hU3 := hU2.trans (Bux.of hB3)
    clear hB3
    obtain ⟨t1, f1⟩ := txcell h3.at'.2 1 _ rfl
    go_wp2_with (fail)
    obtain ⟨h4, hC4⟩ := h3.next hlt
    clear t1 f1
    have hR4 := hR3.but hC4 (by omega)
    have hU4 := hU3.trans hC4
    clear hC4
    generalize w3.setCell ⟨X.b, 1, none⟩ (.int .i64 ((p : Int) + 1)) = w4 at h4 hR4 hU4 ⊢
    refine (SC.out _ h4).mono ?_
    rintro e w5 ⟨o, m, xs, lo, ln, lc, x, rfl, hV5, h5, hC5, hx⟩
    have hR6 := (hR4.but hC5 (by omega)).keep (bal w5 (.cells #[.int .i64 o, .int .i64 m, .string xs, .slice lo ln lc] 43))
    have hU6 := (hU4.trans hC5).trans (Bux.of (bal w5 (.cells #[.int .i64 o, .int .i64 m, .string xs, .slice lo ln lc] 43)))
    have h6 := h5.alloc (.cells #[.int .i64 o, .int .i64 m, .string xs, .slice lo ln lc] 43)
    have hs4 := (Array.getElem?_eq_some_iff.1 hR4).1
    have hs5 := hC5.size
    have hV6 := mk1 (t := 43) (RdTn.low (P' := fun k => w.heap.size < k) (fun k _ (hg : _ ≤ k) => by omega) _ _ _ _ _ hV5) rfl (by omega) 2 0 emp ⟨by decide, by decide, sz_emp⟩
    obtain ⟨r0, g0⟩ := txcell hR6 0 _ rfl
    obtain ⟨r1, g1⟩ := txcell hR6 1 _ rfl
    obtain ⟨r2, g2⟩ := txcell hR6 2 _ rfl
    obtain ⟨r3, g3⟩ := txcell hR6 3 _ rfl
    have hRy := rb_four hR6 rfl (.int .i64 2) (.int .i64 0) (.string emp) (.slice (some ⟨w5.heap.size, 0, none⟩) 1 1)
    obtain ⟨k0, -⟩ := txcell hRy 0 _ rfl
    obtain ⟨k1, -⟩ := txcell hRy 1 _ rfl
    obtain ⟨k2, -⟩ := txcell hRy 2 _ rfl
    obtain ⟨k3, -⟩ := txcell hRy 3 _ rfl
    go_wp2
    exact bodyPost_ret (v := .agg #[.int .i64 2, .int .i64 0, .string emp, .slice (some ⟨w5.heap.size, 0, none⟩) 1 1]) (by simp [results, Tryz.results75, go_sem, k0, k1, k2, k3]) rfl ⟨_, _, _, _, _, _, _, rfl, RdTn.low (fun k _ (hk : w.heap.size < k) => Nat.le_of_lt hk) _ _ _ _ _ (RdTn.keep (Hi.st4 (fun k (hk : w.heap.size < k) => by omega) _ (.int .i64 2) (.int .i64 0) (.string emp) (.slice (some ⟨w5.heap.size, 0, none⟩) 1 1)) _ _ _ _ _ hV6), by rw [HP.out]; exact h6.st4 (by omega) hWw (.int .i64 2) (.int .i64 0) (.string emp) (.slice (some ⟨w5.heap.size, 0, none⟩) 1 1), hU6.st4 (Nat.le_refl _) (.int .i64 2) (.int .i64 0) (.string emp) (.slice (some ⟨w5.heap.size, 0, none⟩) 1 1), HI.out x hx⟩
set_option maxRecDepth 100000 in
set_option maxHeartbeats 4000000 in
theorem dfac_name {X : Rx} {N : Nat} (hW : WdOk X.ws) {w : World} {p : Nat} {r : Out Tm} (h : Ds X w (.at p)) (hr : GT X.ws .fac (.at p) r) {x : ByteArray} (hd : IsN X.ws p x) : Calls Tryz.prog 75 #[.pointer (some ⟨X.b, 0, none⟩)] w (DTm X w r) := by
    have hbw := h.lt
    have hWw := h.below.size
    have hR1 := rb_new w zT 43
    have h1 := h.alloc (.cells zT 43)
    have hU1 : Bux X.b w (w.alloc (.cells zT 43)) := Bux.of (bal w _)
    obtain rfl := gt_name hr hd
    have hlt := hd.lt
    have hlen := h.words.len
    have hltn : p < X.n := by omega
    have hsm := h.small
    have hcap := h.words.rd.lecap
    have hcx := h.words.rd.lemax
    have hnn := hW.name hd
    clear hr
    go_enter Tryz.func75, Tryz.ntmps75
    go_wp2_with (fail)
    refine (dis_no (x := kSq) h1 hd.noS).mono ?_
    rintro e w2 ⟨rfl, hB2⟩
    have h2 := h1.keep hB2
    have hR2 := hR1.keep hB2
    have hU2 := hU1.trans (Bux.of hB2)
    clear hB2
    go_wp2_with (fail)
    refine (dis_no (x := kMinus) h2 hd.noS).mono ?_
    rintro e w3 ⟨rfl, hB3⟩
    have h3 := h2.keep hB3
    have hR3 := hR2.keep hB3
    have hU3 := hU2.trans (Bux.of hB3)
    clear hB3
    go_wp2_with (fail)
    refine (dkd_yes (k := 0) h3 hd.kd).mono ?_
    rintro e w4 ⟨rfl, hB4⟩
    have h4 := h3.keep hB4
    have hR4 := hR3.keep hB4
    have hU4 := hU3.trans (Bux.of hB4)
    clear hB4
    obtain ⟨t1, f1⟩ := txcell h4.at'.2 1 _ rfl
    go_wp2_with (fail)
    obtain ⟨h5, hC5⟩ := h4.next hlt
    clear t1 f1
    have hR5 := hR4.but hC5 (by omega)
    have hU5 := hU4.trans hC5
    clear hC5
    generalize w4.setCell ⟨X.b, 1, none⟩ (.int .i64 ((p : Int) + 1)) = w5 at h5 hR5 hU5 ⊢
    obtain ⟨y, g, off, hy, hao, hg, c0, c1, c2, -⟩ := h5.words.get h5.below hltn
    obtain ⟨T0, -⟩ := txcell h5.at'.2 0 _ rfl
    obtain ⟨T1, -⟩ := txcell h5.at'.2 1 _ rfl
    rw [hao] at T0
    obtain rfl : y.text = x := by obtain ⟨z, hz1, _, hz2⟩ := hd; rw [hy] at hz1; cases hz1; exact hz2
    obtain ⟨r0, g0⟩ := txcell hR5 0 _ rfl
    obtain ⟨r1, g1⟩ := txcell hR5 1 _ rfl
    obtain ⟨r2, g2⟩ := txcell hR5 2 _ rfl
    obtain ⟨r3, g3⟩ := txcell hR5 3 _ rfl
    have hRy := rb_four hR5 rfl (.int .i64 1) (.int .i64 0) (.string y.text) (.slice none 0 0)
    obtain ⟨k0, -⟩ := txcell hRy 0 _ rfl
    obtain ⟨k1, -⟩ := txcell hRy 1 _ rfl
    obtain ⟨k2, -⟩ := txcell hRy 2 _ rfl
    obtain ⟨k3, -⟩ := txcell hRy 3 _ rfl
    go_region
    go_wp2
    exact bodyPost_ret (v := .agg #[.int .i64 1, .int .i64 0, .string y.text, .slice none 0 0]) (by simp [results, Tryz.results75, go_sem, k0, k1, k2, k3]) rfl ⟨_, _, _, _, _, _, _, rfl, leafT 1 0 y.text ⟨by decide, by decide, hnn⟩, (h5.st4 (by omega) hWw (.int .i64 1) (.int .i64 0) (.string y.text) (.slice none 0 0)).drew, but_drew (hU5.st4 (Nat.le_refl _) (.int .i64 1) (.int .i64 0) (.string y.text) (.slice none 0 0)), is_ok rfl⟩
set_option maxRecDepth 100000 in
set_option maxHeartbeats 4000000 in
theorem dfac_num {X : Rx} {N : Nat} (hW : WdOk X.ws) {w : World} {p : Nat} {r : Out Tm} (h : Ds X w (.at p)) (hr : GT X.ws .fac (.at p) r) {n : Nat} (hd : IsD X.ws p n) : Calls Tryz.prog 75 #[.pointer (some ⟨X.b, 0, none⟩)] w (DTm X w r) := by
    have hbw := h.lt
    have hWw := h.below.size
    have hR1 := rb_new w zT 43
    have h1 := h.alloc (.cells zT 43)
    have hU1 : Bux X.b w (w.alloc (.cells zT 43)) := Bux.of (bal w _)
    obtain rfl := gt_num hr hd
    have hlt := hd.lt
    have hlen := h.words.len
    have hltn : p < X.n := by omega
    have hsm := h.small
    have hcap := h.words.rd.lecap
    have hcx := h.words.rd.lemax
    have hnn := hW.num hd
    clear hr
    go_enter Tryz.func75, Tryz.ntmps75
    go_wp2_with (fail)
    refine (dis_no (x := kSq) h1 hd.noS).mono ?_
    rintro e w2 ⟨rfl, hB2⟩
    have h2 := h1.keep hB2
    have hR2 := hR1.keep hB2
    have hU2 := hU1.trans (Bux.of hB2)
    clear hB2
    go_wp2_with (fail)
    refine (dis_no (x := kMinus) h2 hd.noS).mono ?_
    rintro e w3 ⟨rfl, hB3⟩
    have h3 := h2.keep hB3
    have hR3 := hR2.keep hB3
    have hU3 := hU2.trans (Bux.of hB3)
    clear hB3
    go_wp2_with (fail)
    refine (dkd_no (k := 0) h3 hd.noN).mono ?_
    rintro e w4 ⟨rfl, hB4⟩
    have h4 := h3.keep hB4
    have hR4 := hR3.keep hB4
    have hU4 := hU3.trans (Bux.of hB4)
    clear hB4
    go_wp2_with (fail)
    refine (dkd_yes (k := 1) h4 hd.kd).mono ?_
    rintro e w5 ⟨rfl, hB5⟩
    have h5 := h4.keep hB5
    have hR5 := hR4.keep hB5
    have hU5 := hU4.trans (Bux.of hB5)
    clear hB5
    obtain ⟨t1, f1⟩ := txcell h5.at'.2 1 _ rfl
    go_wp2_with (fail)
    obtain ⟨h6, hC6⟩ := h5.next hlt
    clear t1 f1
    have hR6 := hR5.but hC6 (by omega)
    have hU6 := hU5.trans hC6
    clear hC6
    generalize w5.setCell ⟨X.b, 1, none⟩ (.int .i64 ((p : Int) + 1)) = w6 at h6 hR6 hU6 ⊢
    obtain ⟨y, g, off, hy, hao, hg, c0, c1, c2, -⟩ := h6.words.get h6.below hltn
    obtain ⟨T0, -⟩ := txcell h6.at'.2 0 _ rfl
    obtain ⟨T1, -⟩ := txcell h6.at'.2 1 _ rfl
    rw [hao] at T0
    obtain rfl : y.num = n := by obtain ⟨z, hz1, _, hz2⟩ := hd; rw [hy] at hz1; cases hz1; exact hz2
    obtain ⟨r0, g0⟩ := txcell hR6 0 _ rfl
    obtain ⟨r1, g1⟩ := txcell hR6 1 _ rfl
    obtain ⟨r2, g2⟩ := txcell hR6 2 _ rfl
    obtain ⟨r3, g3⟩ := txcell hR6 3 _ rfl
    have hRy := rb_four hR6 rfl (.int .i64 0) (.int .i64 (y.num : Nat)) (.string emp) (.slice none 0 0)
    obtain ⟨k0, -⟩ := txcell hRy 0 _ rfl
    obtain ⟨k1, -⟩ := txcell hRy 1 _ rfl
    obtain ⟨k2, -⟩ := txcell hRy 2 _ rfl
    obtain ⟨k3, -⟩ := txcell hRy 3 _ rfl
    go_region
    go_wp2
    exact bodyPost_ret (v := .agg #[.int .i64 0, .int .i64 (y.num : Nat), .string emp, .slice none 0 0]) (by simp [results, Tryz.results75, go_sem, k0, k1, k2, k3]) rfl ⟨_, _, _, _, _, _, _, rfl, leafT 0 y.num emp ⟨by decide, ⟨by omega, by omega⟩, sz_emp⟩, (h6.st4 (by omega) hWw (.int .i64 0) (.int .i64 (y.num : Nat)) (.string emp) (.slice none 0 0)).drew, but_drew (hU6.st4 (Nat.le_refl _) (.int .i64 0) (.int .i64 (y.num : Nat)) (.string emp) (.slice none 0 0)), is_ok rfl⟩
set_option maxRecDepth 100000 in
set_option maxHeartbeats 4000000 in
theorem dfac_none {X : Rx} {N : Nat} {w : World} {P : Pos} {r : Out Tm} (h : Ds X w P) (hr : GT X.ws .fac P r) (k1 : ¬ P.kinds X.ws 1) (k0 : ¬ P.kinds X.ws 0) (hq : ¬ P.stands X.ws kSq) (hm : ¬ P.stands X.ws kMinus) : Calls Tryz.prog 75 #[.pointer (some ⟨X.b, 0, none⟩)] w (DTm X w r) := by
    have hbw := h.lt
    have hWw := h.below.size
    have hR1 := rb_new w zT 43
    have h1 := h.alloc (.cells zT 43)
    have hU1 : Bux X.b w (w.alloc (.cells zT 43)) := Bux.of (bal w _)
    obtain ⟨hp', hi'⟩ := gt_none hr k1 k0 hq hm
    have HI := mkHid hi'
    have HP := mkHid hp'
    clear hr hp' hi'
    go_enter Tryz.func75, Tryz.ntmps75
    go_wp2_with (fail)
    refine (dis_no (x := kSq) h1 hq).mono ?_
    rintro e w2 ⟨rfl, hB2⟩
    have h2 := h1.keep hB2
    have hR2 := hR1.keep hB2
    have hU2 := hU1.trans (Bux.of hB2)
    clear hB2
    go_wp2_with (fail)
    refine (dis_no (x := kMinus) h2 hm).mono ?_
    rintro e w3 ⟨rfl, hB3⟩
    have h3 := h2.keep hB3
    have hR3 := hR2.keep hB3
    have hU3 := hU2.trans (Bux.of hB3)
    clear hB3
    go_wp2_with (fail)
    refine (dkd_no (k := 0) h3 k0).mono ?_
    rintro e w4 ⟨rfl, hB4⟩
    have h4 := h3.keep hB4
    have hR4 := hR3.keep hB4
    have hU4 := hU3.trans (Bux.of hB4)
    clear hB4
    go_wp2_with (fail)
    refine (dkd_no (k := 1) h4 k1).mono ?_
    rintro e w5 ⟨rfl, hB5⟩
    have h5 := h4.keep hB5
    have hR5 := hR4.keep hB5
    have hU5 := hU4.trans (Bux.of hB5)
    clear hB5
    go_wp2_with (fail)
    refine (dfail_at h5 71 (by decide)).mono ?_
    rintro e w6 ⟨rfl, h6, hC6⟩
    have hR6 := hR5.but hC6 (by omega)
    have hU6 := hU5.trans hC6
    obtain ⟨r0, g0⟩ := txcell hR6 0 _ rfl
    obtain ⟨r1, g1⟩ := txcell hR6 1 _ rfl
    obtain ⟨r2, g2⟩ := txcell hR6 2 _ rfl
    obtain ⟨r3, g3⟩ := txcell hR6 3 _ rfl
    have hRy := rb_four hR6 rfl (.int .i64 0) (.int .i64 0) (.string emp) (.slice none 0 0)
    obtain ⟨q0, -⟩ := txcell hRy 0 _ rfl
    obtain ⟨q1, -⟩ := txcell hRy 1 _ rfl
    obtain ⟨k2, -⟩ := txcell hRy 2 _ rfl
    obtain ⟨k3, -⟩ := txcell hRy 3 _ rfl
    go_wp2
    exact bodyPost_ret (v := .agg #[.int .i64 0, .int .i64 0, .string emp, .slice none 0 0]) (by simp [results, Tryz.results75, go_sem, q0, q1, k2, k3]) rfl ⟨_, _, _, _, _, _, _, rfl, leafT 0 0 emp ⟨by decide, by decide, sz_emp⟩, by rw [HP.out]; exact h6.st4 (by omega) hWw (.int .i64 0) (.int .i64 0) (.string emp) (.slice none 0 0), hU6.st4 (Nat.le_refl _) (.int .i64 0) (.int .i64 0) (.string emp) (.slice none 0 0), HI.out _⟩
theorem dfactor_step {X : Rx} {N : Nat} (hW : WdOk X.ws) (I : N < X.ws.length → DFac X (N + 1) ∧ DSum X (N + 1)) : DFac X N := by
  intro w P r h hP hr
  by_cases k1 : P.kinds X.ws 1
  · obtain ⟨p, n, rfl, hd⟩ := isD_kinds k1
    exact dfac_num (N := 0) hW h hr hd
  by_cases k0 : P.kinds X.ws 0
  · obtain ⟨p, x, rfl, hd⟩ := isN_kinds k0
    exact dfac_name (N := 0) hW h hr hd
  by_cases hq : P.stands X.ws kSq
  · cases P with
    | bad y q => exact hq.elim
    | «at» p => exact dfac_sq I h hP hr hq
  by_cases hm : P.stands X.ws kMinus
  · cases P with
    | bad y q => exact hm.elim
    | «at» p => exact dfac_neg I h hP hr hm
  exact dfac_none (N := 0) h hr k1 k0 hq hm
/-- terms, from every place on -/
theorem dterms_all {X : Rx} (hW : WdOk X.ws) : ∀ m N, X.ws.length + 1 ≤ N + m → DFac X N ∧ DPro X N ∧ DSum X N := by
  intro m
  induction m with
  | zero =>
    intro N hN
    have f := dfactor_step (N := N) hW (fun h => absurd h (by omega))
    exact ⟨f, dproduct_step f, dsum_step (dproduct_step f)⟩
  | succ m ih =>
    intro N hN
    have f := dfactor_step (N := N) hW (fun _ => ⟨(ih (N + 1) (by omega)).1, (ih (N + 1) (by omega)).2.2⟩)
    exact ⟨f, dproduct_step f, dsum_step (dproduct_step f)⟩
theorem dsum_all {X : Rx} (hW : WdOk X.ws) : DSum X 0 := (dterms_all hW (X.ws.length + 1) 0 (by omega)).2.2
end Go.Proofs.YtabfhdmcljdjhaaGreatDoor.Gl
/- The law's digits, written. -/
namespace Go.Proofs.YtabfhdmcljdjhaaGreatDoor.Gl
open Go.RowKit
set_option linter.unusedVariables false

theorem dec_len (n : Nat) : (decL n).length ≤ n / 2 + 1 := by
  induction n using Nat.strongRecOn with
  | _ n ih =>
    by_cases h : n < 10
    · rw [dec_lt h]; simp
    · have := ih (n / 10) (by omega)
      rw [dec_ge h, List.length_append]
      simp only [List.length_singleton]
      omega
theorem dec_part {n q : Nat} {t : List UInt8} (h : decL n = decL q ++ t) : t.length ≤ n / 2 := by
  have h1 := dec_len n
  have h2 := (dec_all q).1
  rw [h, List.length_append] at h1
  omega
theorem u8_add {r : Nat} (h : r < 10) : (48 : UInt8) + UInt8.ofNat r = UInt8.ofNat (48 + r) := by
  rw [← UInt8.toNat_inj, UInt8.toNat_add, u8_of (by omega), u8_of (by omega)]
  show (48 + r) % 256 = 48 + r
  omega
theorem str_cons {r : Nat} {t : List UInt8} (h : r < 10) : Value.string (⟨#[48 + UInt8.ofNat r]⟩ ++ ⟨t.toArray⟩) = .string ⟨(UInt8.ofNat (48 + r) :: t).toArray⟩ := by
  rw [u8_add h]
  congr 1
theorem conv_one (W : World) (c : Nat) (z : Int) (hz : z = (c : Int)) : (convert 140 9 (.slice (some ⟨W.heap.size, 0, none⟩) 1 1)).run Tryz.prog (W.alloc (.cells #[.int .u8 z] 5)) = .ok (.string ⟨#[UInt8.ofNat c]⟩) (W.alloc (.cells #[.int .u8 z] 5)) := by
  subst hz
  rw [run_convert_bytes_string _ 140 9 5 _ _ _ Tryz.underlying140 Tryz.underlying5 Tryz.underlying9]
  have hload := run_loadCells_list (P := Tryz.prog) (w := W.alloc (.cells #[.int .u8 (c : Int)] 5)) ⟨W.heap.size, 0, none⟩ [.int .u8 (c : Int)] (fun j v hj => by
    match j, hj with
    | 0, hj => simp at hj; subst hj; simp [Addr.add])
  rw [run_bytesToString _ ⟨W.heap.size, 0, none⟩ 1 1 [(c : Int)] (by simpa using hload)]
  rfl
end Go.Proofs.YtabfhdmcljdjhaaGreatDoor.Gl
/- The program's variables; isDigit, sign, HasPrefix, run, longestSign. -/
namespace Go.Proofs.YtabfhdmcljdjhaaGreatDoor.Gl
open Go.RowKit
set_option linter.unusedVariables false

abbrev sgnArr : Array Value := #[.string ⟨#[40]⟩, .string ⟨#[41]⟩, .string ⟨#[91]⟩, .string ⟨#[93]⟩, .string ⟨#[44]⟩, .string ⟨#[46]⟩, .string ⟨#[43]⟩, .string ⟨#[45]⟩, .string ⟨#[42]⟩, .string ⟨#[61]⟩, .string ⟨#[33, 61]⟩, .string ⟨#[60, 61]⟩, .string ⟨#[62, 61]⟩, .string ⟨#[60]⟩, .string ⟨#[62]⟩, .string ⟨#[45, 62]⟩, .string ⟨#[60, 45, 62]⟩, .string ⟨#[126]⟩]
/-- the variables hold what the text of the program lays -/
structure Sg (w : World) : Prop where
  signs : ∃ t fr, w.heap[0]? = some (.cells sgnArr t fr)
  range : ∃ te pe, w.cell? ⟨2, 0, none⟩ = some (.iface te pe)
theorem Sg.lt {w : World} (h : Sg w) : 0 < w.heap.size ∧ 2 < w.heap.size := by
  obtain ⟨t, fr, h1⟩ := h.signs
  obtain ⟨te, pe, h2⟩ := h.range
  exact ⟨(Array.getElem?_eq_some_iff.1 h1).1, World.block_lt_of_cell? _ _ h2⟩
theorem Sg.below {w w' : World} (h : Sg w) (hb : Below w.heap.size w w') : Sg w' := by
  obtain ⟨l1, l2⟩ := h.lt
  obtain ⟨t, fr, h1⟩ := h.signs
  obtain ⟨te, pe, h2⟩ := h.range
  exact ⟨⟨t, fr, (hb.block _ l1).trans h1⟩, ⟨te, pe, (hb.cell (p := ⟨2, 0, none⟩) l2).trans h2⟩⟩
theorem Sg.alloc {w : World} (h : Sg w) (o : Obj) : Sg (w.alloc o) := h.below ((Below.refl _ _).alloc (Nat.le_refl _) _)
theorem isdig_at (r : Nat) (w : World) :
    Calls Tryz.prog 82 #[.int .i32 r] w fun e w' => e = .returned (.bool (isDig r)) ∧ w = w' := by
  by_cases h : 48 ≤ r
  · by_cases h2 : r ≤ 57
    · have HE : Hid (isDig r = true) := by show decide _ = true; exact decide_eq_true ⟨h, h2⟩
      have k1 : (48 : Int) ≤ (r : Int) := by omega
      have k2 : (r : Int) ≤ 57 := by omega
      go_enter Tryz.func82, Tryz.ntmps82
      go_wp2
      go_ret
      exact ⟨retb HE.out.symm, rfl⟩
    · have HE : Hid (isDig r = false) := by show decide _ = false; exact decide_eq_false (fun hh => h2 hh.2)
      have k1 : (48 : Int) ≤ (r : Int) := by omega
      have k2 : decide ((r : Int) ≤ 57) = false := decide_eq_false (by omega)
      go_enter Tryz.func82, Tryz.ntmps82
      go_wp2
      go_ret
      exact ⟨retb HE.out.symm, rfl⟩
  · have HE : Hid (isDig r = false) := by show decide _ = false; exact decide_eq_false (fun hh => h hh.1)
    have k1 : decide ((48 : Int) ≤ (r : Int)) = false := decide_eq_false (by omega)
    go_enter Tryz.func82, Tryz.ntmps82
    go_wp2
    go_ret
    exact ⟨retb HE.out.symm, rfl⟩
abbrev wordV (k : Nat) (t : ByteArray) (v : Nat) (b c : Nat) : Value := .agg #[.int .i64 k, .string t, .int .i64 v, .int .i64 b, .int .i64 c]
theorem sign_at (t : ByteArray) (w : World) :
    Calls Tryz.prog 85 #[.string t] w fun e w' => e = .returned (wordV 2 t 0 0 0) ∧ Below w.heap.size w w' := by
  go_enter Tryz.func85, Tryz.ntmps85
  go_wp2
  exact bodyPost_ret (v := wordV 2 t 0 0 0) (by simp [results, Tryz.results85, go_sem]) rfl ⟨rfl, (Below.refl _ _).alloc (Nat.le_refl _) _⟩
/- HasPrefix -/
theorem fits_take (t x : ByteArray) (h : x.size ≤ t.size) : ((t.extract 0 x.size).toList == x.toList) = fits t 0 x := by
  rw [Bool.eq_iff_iff, fits_iff, beq_iff_eq]
  constructor
  · intro e
    have e' := toList_inj e
    refine ⟨by omega, fun j hj => ?_⟩
    rw [← e', bt_win t 0 x.size j h (by omega)]
  · rintro ⟨_, h2⟩
    have : t.extract 0 x.size = x.extract 0 x.size := extract_eq (Nat.le_refl _) h rfl (fun k hk => by simpa using h2 k (by omega))
    rw [this, extract_all]
theorem hp_at (t x : ByteArray) (w : World) (hs : t.size ≤ 9223372036854775807) :
    Calls Tryz.prog 95 #[.string t, .string x] w fun e w' => e = .returned (.bool (fits t 0 x)) ∧ w = w' := by
  by_cases h : x.size ≤ t.size
  · have HE : Hid (((t.extract 0 x.size).toList == x.toList) = fits t 0 x) := fits_take t x h
    have h1 : (x.size : Int) ≤ (t.size : Int) := by omega
    go_enter Tryz.func95, Tryz.ntmps95
    go_wp2
    go_ret
    exact ⟨retb HE.out, rfl⟩
  · have HE : Hid (false = fits t 0 x) := by
      show _ = _
      cases hf : fits t 0 x with
      | false => rfl
      | true => have := (fits_iff t 0 x).1 hf; omega
    have h1 : decide (x.size ≤ t.size) = false := decide_eq_false h
    go_enter Tryz.func95, Tryz.ntmps95
    go_wp2
    go_ret
    exact ⟨retb HE.out, rfl⟩
theorem hasprefix_at (t x : ByteArray) (w : World) (hs : t.size ≤ 9223372036854775807) :
    Calls Tryz.prog 77 #[.string t, .string x] w fun e w' => e = .returned (.bool (fits t 0 x)) ∧ w = w' := by
  have K : Hid (∀ w, Calls Tryz.prog 95 #[.string t, .string x] w fun e w' => e = .returned (.bool (fits t 0 x)) ∧ w = w') := fun w => hp_at t x w hs
  generalize fits t 0 x = b at *
  go_enter Tryz.func77, Tryz.ntmps77
  go_wp2_with (go_at_call 95; refine (K.out _).mono ?_; rintro e w2 ⟨rfl, rfl⟩)
  go_ret
  exact ⟨rfl, rfl⟩
/- run -/
theorem ok_of_dig {s : ByteArray} {p : Nat} (h : isDig (rdS s p).1 = true) : (rdS s p).2.2 = true := by
  have : (rdS s p).1 < 128 := by
    have := of_decide_eq_true h
    omega
  exact (rd_ascii this).2.2
theorem RunTo.snoc {P : Nat → Bool} {s : ByteArray} {p q : Nat} (h : RunTo P s p q) (h1 : q < s.size) (h2 : (rdS s q).2.2 = true) (h3 : P (rdS s q).1 = true) : RunTo P s p (q + (rdS s q).2.1) := by
  induction h with
  | nil => exact .cons h1 h2 h3 (.nil _)
  | cons a b c _ ih => exact .cons a b c (ih h1 h2 h3)
set_option maxHeartbeats 1000000 in
theorem runre_at (s : ByteArray) (w : World) (hs : s.size ≤ 9223372036854775807) :
    Calls Tryz.prog 79 #[.string s, .func (.func 80) #[] #[]] w fun e w' => e = .returned (.string (s.extract 0 (run reN s 0))) ∧ Below w.heap.size w w' := by
  have PR : Hid (∀ (r : Nat) w, Calls Tryz.prog 80 #[.int .i32 r] w fun e w' => e = .returned (.bool (reN r)) ∧ w = w') := fun r w => rest_at (r : Nat) w
  go_enter Tryz.func79, Tryz.ntmps79
  go_wp2
  go_loopw [] (fun wr => ∃ p : Nat, wr = w.iter s p ∧ p ≤ s.size ∧ Hid (RunTo reN s 0 p)) (fun wr => s.size - wr.iterPos w.heap.size)
  case atStart => exact ⟨0, rfl, Nat.zero_le _, .nil 0⟩
  case round =>
    obtain ⟨p, rfl, hle, hrun⟩ := hrel
    by_cases hlt : p < s.size
    · obtain ⟨hb1, hb2, hb3⟩ := rd_bd s p hlt
      have HY : Hid (reN (rdS s p).1 = true → RunTo reN s 0 (p + (rdS s p).2.1)) := fun h => hrun.out.snoc hlt (ok_of_re h) h
      have HN : Hid (reN (rdS s p).1 = false → s.extract 0 p = s.extract 0 (run reN s 0)) := fun h => by
        rw [run_is hrun.out (fun hc => by rw [h] at hc; exact absurd hc.2.2 (by decide))]
      have hnx := next_at w s p _ _ hlt rfl rfl
      have P0 : Hid (∀ w, Calls Tryz.prog 80 #[.int .i32 ((rdS s p).1 : Nat)] w fun e w' => e = .returned (.bool (reN (rdS s p).1)) ∧ w = w') := PR.out (rdS s p).1
      generalize hr : (rdS s p).1 = r at *
      generalize hw : (rdS s p).2.1 = wd at *
      clear hr hw PR
      cases hc : reN r with
      | true =>
        rw [hc] at P0
        have HY' := HY.out hc
        clear HY HN hc hrun
        go_wp2_with (go_at_call 80; refine (P0.out _).mono ?_; rintro e w2 ⟨rfl, rfl⟩)
        go_roundw
        case rel => exact ⟨p + wd, rfl, hb2, HY'⟩
        case measure => simp only [World.iterPos_iter]; omega
      | false =>
        rw [hc] at P0
        have HE : Hid (s.extract 0 p = s.extract 0 (run reN s 0)) := HN.out hc
        clear HY HN hc hrun
        go_wp2_with (go_at_call 80; refine (P0.out _).mono ?_; rintro e w2 ⟨rfl, rfl⟩)
        go_ret
        exact ⟨congrArg (fun x => Ending.returned (.string x)) HE.out, iter_below _ _ _⟩
    · have HE : Hid (s = s.extract 0 (run reN s 0)) := by
        show _ = _
        rw [run_is hrun.out (fun hc => hlt hc.1), show p = s.size by omega, extract_all]
      have hnx := fun ty => run_next_end (P := Tryz.prog) w s p ty hlt
      clear hrun
      go_wp2
      go_ret
      exact ⟨congrArg (fun x => Ending.returned (.string x)) HE.out, iter_below _ _ _⟩
set_option maxHeartbeats 1000000 in
theorem rundig_at (s : ByteArray) (w : World) (hs : s.size ≤ 9223372036854775807) :
    Calls Tryz.prog 79 #[.string s, .func (.func 82) #[] #[]] w fun e w' => e = .returned (.string (s.extract 0 (run isDig s 0))) ∧ Below w.heap.size w w' := by
  have PR : Hid (∀ (r : Nat) w, Calls Tryz.prog 82 #[.int .i32 r] w fun e w' => e = .returned (.bool (isDig r)) ∧ w = w') := fun r w => isdig_at r w
  go_enter Tryz.func79, Tryz.ntmps79
  go_wp2
  go_loopw [] (fun wr => ∃ p : Nat, wr = w.iter s p ∧ p ≤ s.size ∧ Hid (RunTo isDig s 0 p)) (fun wr => s.size - wr.iterPos w.heap.size)
  case atStart => exact ⟨0, rfl, Nat.zero_le _, .nil 0⟩
  case round =>
    obtain ⟨p, rfl, hle, hrun⟩ := hrel
    by_cases hlt : p < s.size
    · obtain ⟨hb1, hb2, hb3⟩ := rd_bd s p hlt
      have HY : Hid (isDig (rdS s p).1 = true → RunTo isDig s 0 (p + (rdS s p).2.1)) := fun h => hrun.out.snoc hlt (ok_of_dig h) h
      have HN : Hid (isDig (rdS s p).1 = false → s.extract 0 p = s.extract 0 (run isDig s 0)) := fun h => by
        rw [run_is hrun.out (fun hc => by rw [h] at hc; exact absurd hc.2.2 (by decide))]
      have hnx := next_at w s p _ _ hlt rfl rfl
      have P0 : Hid (∀ w, Calls Tryz.prog 82 #[.int .i32 ((rdS s p).1 : Nat)] w fun e w' => e = .returned (.bool (isDig (rdS s p).1)) ∧ w = w') := PR.out (rdS s p).1
      generalize hr : (rdS s p).1 = r at *
      generalize hw : (rdS s p).2.1 = wd at *
      clear hr hw PR
      cases hc : isDig r with
      | true =>
        rw [hc] at P0
        have HY' := HY.out hc
        clear HY HN hc hrun
        go_wp2_with (go_at_call 82; refine (P0.out _).mono ?_; rintro e w2 ⟨rfl, rfl⟩)
        go_roundw
        case rel => exact ⟨p + wd, rfl, hb2, HY'⟩
        case measure => simp only [World.iterPos_iter]; omega
      | false =>
        rw [hc] at P0
        have HE : Hid (s.extract 0 p = s.extract 0 (run isDig s 0)) := HN.out hc
        clear HY HN hc hrun
        go_wp2_with (go_at_call 82; refine (P0.out _).mono ?_; rintro e w2 ⟨rfl, rfl⟩)
        go_ret
        exact ⟨congrArg (fun x => Ending.returned (.string x)) HE.out, iter_below _ _ _⟩
    · have HE : Hid (s = s.extract 0 (run isDig s 0)) := by
        show _ = _
        rw [run_is hrun.out (fun hc => hlt hc.1), show p = s.size by omega, extract_all]
      have hnx := fun ty => run_next_end (P := Tryz.prog) w s p ty hlt
      clear hrun
      go_wp2
      go_ret
      exact ⟨congrArg (fun x => Ending.returned (.string x)) HE.out, iter_below _ _ _⟩
end Go.Proofs.YtabfhdmcljdjhaaGreatDoor.Gl
