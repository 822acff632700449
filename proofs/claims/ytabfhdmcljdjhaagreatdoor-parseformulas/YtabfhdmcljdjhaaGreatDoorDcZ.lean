/- The document's reader: atom. -/
import Derived.Test.YtabfhdmcljdjhaaGreatDoorDcR
namespace Go.Proofs.YtabfhdmcljdjhaaGreatDoor.Gl
open Go.RowKit
set_option linter.unusedVariables false
set_option linter.unusedSimpArgs false

theorem pos_bad {α : Type} {r : Out α} {y q : Nat} (h : r.pos = .bad y q) (x : α) : r.is x := by
  cases r with
  | ok a p => cases h
  | bad a b => exact is_bad
theorem ref_bad {P : Pos} {k : Nat} : ∃ y q, P.ref k = .bad y q := by
  cases P with
  | «at» p => exact ⟨_, _, rfl⟩
  | bad y q => exact ⟨_, _, rfl⟩
theorem gr_some {ws : List Wd} {Q P2 : Pos} {i : Nat} (h : GR ws Q (some i) P2) : ∃ p, Q = .at p ∧ i < 7 ∧ IsS ws p (rels.getD i emp) ∧ P2 = .at (p + 1) := by
  cases h with
  | some a b => exact ⟨_, rfl, a, b, rfl⟩
theorem gr_none {ws : List Wd} {Q P2 : Pos} (h : GR ws Q none P2) : (∀ i, i < 7 → ¬ Q.stands ws (rels.getD i emp)) ∧ P2 = Q.ref 71 := by
  cases h with
  | bad => exact ⟨fun _ _ hs => hs, rfl⟩
  | none hn => exact ⟨fun i hi hs => hn _ (rels_in i hi) hs, rfl⟩
theorem buxA {b : Nat} {W w : World} (h : Bux b W w) (o : Obj) : Bux b W (w.alloc o) := h.trans (Bux.of (bal w o))
theorem buxD {b : Nat} {W w : World} (h : Bux b W w) : Bux b W w.drew := but_drew h
theorem rbA {w : World} {B : Nat} {vs : Array Value} {t : TypeId} (h : Rb w B vs t) (o : Obj) : Rb (w.alloc o) B vs t := h.keep (bal w o)
theorem rbD {w : World} {B : Nat} {vs : Array Value} {t : TypeId} (h : Rb w B vs t) : Rb w.drew B vs t := h
theorem rb_lt {w : World} {B : Nat} {vs : Array Value} {t : TypeId} (h : Rb w B vs t) : B < w.heap.size := (Array.getElem?_eq_some_iff.1 h).1
theorem gt_bad {ws : List Wd} {y q : Nat} {k : QT} {r : Out Tm} (h : GT ws k (.bad y q) r) : r.pos = .bad y q := by
  cases h with
  | bad => rfl
theorem kinds_of {ws : List Wd} {q n : Nat} (h : IsD ws q n) : (Pos.at q).kinds ws 1 := by
  obtain ⟨y, hy, hk, _⟩ := h
  exact ⟨y, hy, hk⟩
theorem num_of {ws : List Wd} {q n : Nat} {y : Wd} (hy : ws[q]? = some y) (h : IsD ws q n) : y.num = n := by
  obtain ⟨z, hz, _, hn⟩ := h
  rw [hy] at hz
  cases hz
  exact hn
set_option maxRecDepth 100000 in
set_option maxHeartbeats 4000000 in
theorem datom_none {X : Rx} {w : World} {P Q : Pos} {r : Out Fm} {r1 : Out Tm} (h : Ds X w P) (S1 : ∀ w5, Ds X w5 P → Calls Tryz.prog 25 #[.pointer (some ⟨X.b, 0, none⟩)] w5 (DTm X w5 r1)) (hq : r1.pos = Q) (hns : ∀ i, i < 7 → ¬ Q.stands X.ws (rels.getD i emp)) (hp : r.pos = Q.ref 71) (hi : ∀ f, r.is f) : Calls Tryz.prog 70 #[.pointer (some ⟨X.b, 0, none⟩)] w (DFm X w r) := by
  have hbw := h.lt
  have hWw := h.below.size
  have hR1 := rb_new w zF 26
  have h1 := h.alloc (.cells zF 26)
  have hB1 : Bux X.b w (w.alloc (.cells zF 26)) := Bux.of (bal w _)
  have T1 := mkHid (S1 _ h1)
  have BC : Hid (∀ w3, Ds X w3 Q → Calls Tryz.prog 93 #[.pointer (some ⟨X.b, 0, none⟩)] w3 fun e w' => e = .returned (.int .i64 (-1)) ∧ Ds X w' Q ∧ Below w3.heap.size w3 w') := fun w3 h3 => dbetween_at h3 (-1) (fun j hj hs' => absurd hs' (hns j hj)) (fun _ => rfl)
  have HP := mkHid hp
  have HI := mkHid (hi fTrue)
  have HQ := mkHid hq
  clear S1 hp hi hns hq
  go_enter Tryz.func70, Tryz.ntmps70
  go_wp2_with (first
    | (go_at_call 25; refine (T1.out).mono ?_; rintro e w2 ⟨o, m, xs, lo, ln, lc, a, rfl, hV2, h2, hC2, ha⟩; rw [HQ.out] at h2; have hR2 := (hR1.but hC2 (by omega)).keep (bal w2 (.cells #[.int .i64 o, .int .i64 m, .string xs, .slice lo ln lc] 43)); have hU2 := (hB1.trans hC2).trans (Bux.of (bal w2 (.cells #[.int .i64 o, .int .i64 m, .string xs, .slice lo ln lc] 43))); have hX2 := rb_new w2 #[.int .i64 o, .int .i64 m, .string xs, .slice lo ln lc] 43; have hs2 : w.heap.size < w2.heap.size := (Array.getElem?_eq_some_iff.1 (hR1.but hC2 (by omega))).1; have hb2 := h2.lt)
    | (go_at_call 93; refine (BC.out _ (h2.alloc _)).mono ?_; rintro e w3 ⟨rfl, h3, hB3⟩; have hR3 := hR2.keep hB3; have hU3 := hU2.trans (Bux.of hB3))
    | (go_at_call 42; refine (dfail_at h3 71 (by decide)).mono ?_; rintro e w4 ⟨rfl, h4, hC4⟩; have hR4 := hR3.but hC4 (by omega); have hU4 := hU3.trans hC4; obtain ⟨r0, g0⟩ := txcell hR4 0 _ rfl; obtain ⟨r1', g1⟩ := txcell hR4 1 _ rfl; obtain ⟨r2, g2⟩ := txcell hR4 2 _ rfl; obtain ⟨r3', g3⟩ := txcell hR4 3 _ rfl; obtain ⟨r4, g4⟩ := txcell hR4 4 _ rfl; have hRy := rb_five hR4 rfl (.int .i64 0) (.string emp) (.int .i64 0) (.slice none 0 0) (.slice none 0 0); obtain ⟨k0, -⟩ := txcell hRy 0 _ rfl; obtain ⟨k1, -⟩ := txcell hRy 1 _ rfl; obtain ⟨k2, -⟩ := txcell hRy 2 _ rfl; obtain ⟨k3, -⟩ := txcell hRy 3 _ rfl; obtain ⟨k4, -⟩ := txcell hRy 4 _ rfl))
  exact bodyPost_ret (v := .agg #[.int .i64 0, .string emp, .int .i64 0, .slice none 0 0, .slice none 0 0]) (by simp [results, Tryz.results70, go_sem, k0, k1, k2, k3, k4]) rfl ⟨_, _, _, _, _, _, _, _, _, _, rfl, leafF 0 0 emp ⟨by decide, by decide, sz_emp⟩, by rw [HP.out]; exact h4.st5 (by omega) hWw (.int .i64 0) (.string emp) (.int .i64 0) (.slice none 0 0) (.slice none 0 0), hU4.st5 (Nat.le_refl _) (.int .i64 0) (.string emp) (.int .i64 0) (.slice none 0 0) (.slice none 0 0), HI.out⟩
set_option maxRecDepth 100000 in
set_option maxHeartbeats 8000000 in
theorem datom_rel {X : Rx} {w : World} {P : Pos} {p : Nat} {r : Out Fm} {r1 r3 : Out Tm} {ro : Int} (h : Ds X w P) (S1 : ∀ w5, Ds X w5 P → Calls Tryz.prog 25 #[.pointer (some ⟨X.b, 0, none⟩)] w5 (DTm X w5 r1)) (S3 : ∀ w5, Ds X w5 (.at (p + 1)) → Calls Tryz.prog 25 #[.pointer (some ⟨X.b, 0, none⟩)] w5 (DTm X w5 r3)) (hq : r1.pos = .at p) (hlt : p < X.ws.length) (HBC : ∀ w3, Ds X w3 (.at p) → Calls Tryz.prog 93 #[.pointer (some ⟨X.b, 0, none⟩)] w3 fun e w' => e = .returned (.int .i64 ro) ∧ Ds X w' (.at p) ∧ Below w3.heap.size w3 w')
    (hro : I64 ro) (h0 : ¬ ro < 0) (h15 : (ro == 15) = false) (hp : r.pos = r3.pos) (hi : ∀ a b, r1.is a → r3.is b → r.is (.mk ro emp 0 [a, b] [])) : Calls Tryz.prog 70 #[.pointer (some ⟨X.b, 0, none⟩)] w (DFm X w r) := by
  have hbw := h.lt
  have hWw := h.below.size
  have hR1 := rb_new w zF 26
  have h1 := h.alloc (.cells zF 26)
  have hB1 : Bux X.b w (w.alloc (.cells zF 26)) := Bux.of (bal w _)
  have T1 := mkHid (S1 _ h1)
  have BC := mkHid HBC
  have T3 := mkHid S3
  have HQ := mkHid hq
  have HP := mkHid hp
  have HI := mkHid hi
  clear hp hi
  clear S1 S3 hq HBC
  go_enter Tryz.func70, Tryz.ntmps70
  go_wp2_with (first
    | (go_at_call 25; refine (T1.out).mono ?_; rintro e w2 ⟨o, m, xs, lo, ln, lc, a, rfl, hV2, h2, hC2, ha⟩; rw [HQ.out] at h2; have hR2 := (hR1.but hC2 (by omega)).keep (bal w2 (.cells #[.int .i64 o, .int .i64 m, .string xs, .slice lo ln lc] 43)); have hU2 := (hB1.trans hC2).trans (Bux.of (bal w2 (.cells #[.int .i64 o, .int .i64 m, .string xs, .slice lo ln lc] 43))); have hX2 := rb_new w2 #[.int .i64 o, .int .i64 m, .string xs, .slice lo ln lc] 43; have hs2 : w.heap.size < w2.heap.size := (Array.getElem?_eq_some_iff.1 (hR1.but hC2 (by omega))).1; have hb2 := h2.lt)
    | (go_at_call 93; refine (BC.out _ (h2.alloc _)).mono ?_; rintro e w3 ⟨rfl, h3, hB3⟩; have hR3 := hR2.keep hB3; have hU3 := hU2.trans (Bux.of hB3); have hX3 := hX2.keep hB3; have hV3 : RdTn (fun k => w.heap.size < k ∧ k ≠ w2.heap.size) w3 a (.int .i64 o) (.int .i64 m) (.string xs) (.slice lo ln lc) := RdTn.keep (Hi.of hB3) _ _ _ _ _ (RdTn.keep (Hi.of (bal w2 _)) _ _ _ _ _ (RdTn.low (P' := fun k => w.heap.size < k ∧ k ≠ w2.heap.size) (fun k hk (hg : _ ≤ k) => ⟨by simp only [World.size_alloc] at hg; omega, by omega⟩) _ _ _ _ _ hV2)); obtain ⟨t1, f1⟩ := txcell h3.at'.2 1 _ rfl; have hsm := h3.small))
  obtain ⟨h4, hC4⟩ := h3.next hlt
  clear t1 f1
  have hX4 := hX3.but hC4 (by omega)
  have hR4 := hR3.but hC4 (by omega)
  have hU4 := hU3.trans hC4
  have hV4 := RdTn.keep (Hi.but hC4 (fun k hk => by omega)) _ _ _ _ _ hV3
  clear hC4
  generalize w3.setCell ⟨X.b, 1, none⟩ (.int .i64 ((p : Int) + 1)) = w4 at h4 hX4 hR4 hU4 hV4 ⊢
  obtain ⟨x0, -⟩ := txcell hX4 0 _ rfl
  obtain ⟨x1, -⟩ := txcell hX4 1 _ rfl
  obtain ⟨x2, -⟩ := txcell hX4 2 _ rfl
  obtain ⟨x3, -⟩ := txcell hX4 3 _ rfl
  have hX4l := (Array.getElem?_eq_some_iff.1 hX4).1
  have hb4 := h4.lt
  have hDr : Bux X.b w4 w4 := Bux.refl _ _
  have hF4 := rb_new w4 zF 26
  have K0 : Hid (∀ w', Rb w' w2.heap.size #[.int .i64 o, .int .i64 m, .string xs, .slice lo ln lc] 43 → w'.cell? ⟨w2.heap.size, 0, none⟩ = some (.int .i64 o) ∧ w'.cell? ⟨w2.heap.size, 1, none⟩ = some (.int .i64 m) ∧ w'.cell? ⟨w2.heap.size, 2, none⟩ = some (.string xs) ∧ w'.cell? ⟨w2.heap.size, 3, none⟩ = some (.slice lo ln lc)) := fun w' hX => ⟨(txcell hX 0 _ rfl).1, (txcell hX 1 _ rfl).1, (txcell hX 2 _ rfl).1, (txcell hX 3 _ rfl).1⟩
  clear x0 x1 x2 x3
  go_region_held3 (fun w' => w'.cell? ⟨w2.heap.size, 0, none⟩ = some (.int .i64 o) ∧ w'.cell? ⟨w2.heap.size, 1, none⟩ = some (.int .i64 m) ∧ w'.cell? ⟨w2.heap.size, 2, none⟩ = some (.string xs) ∧ w'.cell? ⟨w2.heap.size, 3, none⟩ = some (.slice lo ln lc))
    ((refine K0.out _ ?_; with_reducible (repeat (first | exact hX4 | exact hX6 | refine rbA ?_ _ | refine rbD ?_ | refine Rb.other ?_ (by omega) _ _))))
    (first
      | (go_at_call 25; refine (T3.out _ ?_).mono ?_; (with_reducible exact h4.drew); rintro e w6 ⟨o2, m2, xs2, lo2, ln2, lc2, b, rfl, hY5, h6, hC6, hb⟩; have hU46 : Bux X.b w4 w6 := (buxD hDr).trans hC6; have hX6 := hX4.but hU46 (by omega); have hX6l := rb_lt hX6; have hs46 := hU46.size)
      | (go_at_call 25; refine (T3.out _ ?_).mono ?_; (with_reducible exact (h4.alloc _).drew); rintro e w6 ⟨o2, m2, xs2, lo2, ln2, lc2, b, rfl, hY5, h6, hC6, hb⟩; have hU46 : Bux X.b w4 w6 := (buxD (buxA hDr _)).trans hC6; have hX6 := hX4.but hU46 (by omega); have hX6l := rb_lt hX6; have hs46 := hU46.size; have hT6 := Rb.but (rbD hF4) hC6 (show w4.heap.size ≠ X.b by omega); have hT7 := hT6.keep (bal w6 (.cells #[.int .i64 o, .int .i64 m, .string xs, .slice lo ln lc, .int .i64 o2, .int .i64 m2, .string xs2, .slice lo2 ln2 lc2] 43)); obtain ⟨u0, v0⟩ := txcell hT7 0 _ rfl; obtain ⟨u1, v1⟩ := txcell hT7 1 _ rfl; obtain ⟨u2, v2⟩ := txcell hT7 2 _ rfl; obtain ⟨u3, v3⟩ := txcell hT7 3 _ rfl; obtain ⟨u4, v4⟩ := txcell hT7 4 _ rfl))
  all_goals (rename_i hHeld; clear hHeld)
  have hR6 := hR4.but hU46 (by omega)
  have hU6 := hU4.trans hU46
  have hV6 : RdTn (fun k => w.heap.size < k ∧ k < w4.heap.size) w6 a (.int .i64 o) (.int .i64 m) (.string xs) (.slice lo ln lc) := RdTn.keep (Hi.but hU46 (fun k (hk : w.heap.size < k ∧ k < w4.heap.size) => by omega)) _ _ _ _ _ (RdTn.low (P' := fun k => w.heap.size < k ∧ k < w4.heap.size) (fun k hk (hg : w.heap.size < k ∧ k ≠ w2.heap.size) => ⟨hg.1, hk⟩) _ _ _ _ _ hV4)
  have hW6 : RdTn (fun k => w.heap.size < k ∧ k < w6.heap.size) w6 b (.int .i64 o2) (.int .i64 m2) (.string xs2) (.slice lo2 ln2 lc2) := RdTn.low (fun k hk (hg : _ ≤ k) => by have hz : w4.drew.heap.size = w4.heap.size := rfl; rw [hz] at hg; exact ⟨by omega, hk⟩) _ _ _ _ _ hY5
  have hz1 : (w6.alloc (.cells #[.int .i64 o, .int .i64 m, .string xs, .slice lo ln lc, .int .i64 o2, .int .i64 m2, .string xs2, .slice lo2 ln2 lc2] 43)).heap.size = w6.heap.size + 1 := World.size_alloc ..
  have hG7 := (rb_new w6 #[.int .i64 o, .int .i64 m, .string xs, .slice lo ln lc, .int .i64 o2, .int .i64 m2, .string xs2, .slice lo2 ln2 lc2] 43).keep (bal (w6.alloc (.cells #[.int .i64 o, .int .i64 m, .string xs, .slice lo ln lc, .int .i64 o2, .int .i64 m2, .string xs2, .slice lo2 ln2 lc2] 43)) (.cells #[.int .i64 ro, .string emp, .int .i64 0, .slice (some ⟨w6.heap.size, 0, none⟩) 2 2, .slice none 0 0] 26))
  have hF7 := rb_new (w6.alloc (.cells #[.int .i64 o, .int .i64 m, .string xs, .slice lo ln lc, .int .i64 o2, .int .i64 m2, .string xs2, .slice lo2 ln2 lc2] 43)) #[.int .i64 ro, .string emp, .int .i64 0, .slice (some ⟨w6.heap.size, 0, none⟩) 2 2, .slice none 0 0] 26
  rw [hz1] at hF7
  have hR7 := ((hR6).keep (bal w6 (.cells #[.int .i64 o, .int .i64 m, .string xs, .slice lo ln lc, .int .i64 o2, .int .i64 m2, .string xs2, .slice lo2 ln2 lc2] 43))).keep (bal (w6.alloc (.cells #[.int .i64 o, .int .i64 m, .string xs, .slice lo ln lc, .int .i64 o2, .int .i64 m2, .string xs2, .slice lo2 ln2 lc2] 43)) (.cells #[.int .i64 ro, .string emp, .int .i64 0, .slice (some ⟨w6.heap.size, 0, none⟩) 2 2, .slice none 0 0] 26))
  have hU7 := (hU6.trans (Bux.of (bal w6 (.cells #[.int .i64 o, .int .i64 m, .string xs, .slice lo ln lc, .int .i64 o2, .int .i64 m2, .string xs2, .slice lo2 ln2 lc2] 43)))).trans (Bux.of (bal (w6.alloc (.cells #[.int .i64 o, .int .i64 m, .string xs, .slice lo ln lc, .int .i64 o2, .int .i64 m2, .string xs2, .slice lo2 ln2 lc2] 43)) (.cells #[.int .i64 ro, .string emp, .int .i64 0, .slice (some ⟨w6.heap.size, 0, none⟩) 2 2, .slice none 0 0] 26)))
  have h7 := (h6.alloc (.cells #[.int .i64 o, .int .i64 m, .string xs, .slice lo ln lc, .int .i64 o2, .int .i64 m2, .string xs2, .slice lo2 ln2 lc2] 43)).alloc (.cells #[.int .i64 ro, .string emp, .int .i64 0, .slice (some ⟨w6.heap.size, 0, none⟩) 2 2, .slice none 0 0] 26)
  have hV7 : RdTn (fun k => w.heap.size < k ∧ k ≠ w6.heap.size + 1) ((w6.alloc (.cells #[.int .i64 o, .int .i64 m, .string xs, .slice lo ln lc, .int .i64 o2, .int .i64 m2, .string xs2, .slice lo2 ln2 lc2] 43)).alloc (.cells #[.int .i64 ro, .string emp, .int .i64 0, .slice (some ⟨w6.heap.size, 0, none⟩) 2 2, .slice none 0 0] 26)) a (.int .i64 o) (.int .i64 m) (.string xs) (.slice lo ln lc) := RdTn.keep (Hi.of (bal (w6.alloc (.cells #[.int .i64 o, .int .i64 m, .string xs, .slice lo ln lc, .int .i64 o2, .int .i64 m2, .string xs2, .slice lo2 ln2 lc2] 43)) (.cells #[.int .i64 ro, .string emp, .int .i64 0, .slice (some ⟨w6.heap.size, 0, none⟩) 2 2, .slice none 0 0] 26))) _ _ _ _ _ (RdTn.keep (Hi.of (bal w6 (.cells #[.int .i64 o, .int .i64 m, .string xs, .slice lo ln lc, .int .i64 o2, .int .i64 m2, .string xs2, .slice lo2 ln2 lc2] 43))) _ _ _ _ _ (RdTn.low (fun k hk (hg : w.heap.size < k ∧ k < w4.heap.size) => ⟨hg.1, by omega⟩) _ _ _ _ _ hV6))
  have hW7 : RdTn (fun k => w.heap.size < k ∧ k ≠ w6.heap.size + 1) ((w6.alloc (.cells #[.int .i64 o, .int .i64 m, .string xs, .slice lo ln lc, .int .i64 o2, .int .i64 m2, .string xs2, .slice lo2 ln2 lc2] 43)).alloc (.cells #[.int .i64 ro, .string emp, .int .i64 0, .slice (some ⟨w6.heap.size, 0, none⟩) 2 2, .slice none 0 0] 26)) b (.int .i64 o2) (.int .i64 m2) (.string xs2) (.slice lo2 ln2 lc2) := RdTn.keep (Hi.of (bal (w6.alloc (.cells #[.int .i64 o, .int .i64 m, .string xs, .slice lo ln lc, .int .i64 o2, .int .i64 m2, .string xs2, .slice lo2 ln2 lc2] 43)) (.cells #[.int .i64 ro, .string emp, .int .i64 0, .slice (some ⟨w6.heap.size, 0, none⟩) 2 2, .slice none 0 0] 26))) _ _ _ _ _ (RdTn.keep (Hi.of (bal w6 (.cells #[.int .i64 o, .int .i64 m, .string xs, .slice lo ln lc, .int .i64 o2, .int .i64 m2, .string xs2, .slice lo2 ln2 lc2] 43))) _ _ _ _ _ (RdTn.low (fun k hk (hg : w.heap.size < k ∧ k < w6.heap.size) => ⟨hg.1, by omega⟩) _ _ _ _ _ hW6))
  have hb5 : w.heap.size < w6.heap.size + 1 ∧ X.W.heap.size ≤ w6.heap.size + 1 ∧ X.b < w6.heap.size + 1 := ⟨by omega, by omega, by omega⟩
  have hbs : w.heap.size < w6.heap.size ∧ w6.heap.size ≠ w6.heap.size + 1 := ⟨by omega, by omega⟩
  clear h6 hC6 hU46 hX6 hX6l hs46 hY5 hR6 hU6 hV6 hW6 hz1
  generalize ((w6.alloc (.cells #[.int .i64 o, .int .i64 m, .string xs, .slice lo ln lc, .int .i64 o2, .int .i64 m2, .string xs2, .slice lo2 ln2 lc2] 43)).alloc (.cells #[.int .i64 ro, .string emp, .int .i64 0, .slice (some ⟨w6.heap.size, 0, none⟩) 2 2, .slice none 0 0] 26)) = w7 at h7 hU7 hR7 hF7 hG7 hV7 hW7 ⊢
  generalize w6.heap.size + 1 = g5 at hF7 hG7 hV7 hW7 hb5 hbs ⊢
  generalize w6.heap.size = gs at hF7 hG7 hV7 hW7 hb5 hbs ⊢
  rotate_left
  have hR6 := hR4.but hU46 (by omega)
  have hU6 := hU4.trans hU46
  have hV6 : RdTn (fun k => w.heap.size < k ∧ k < w4.heap.size) w6 a (.int .i64 o) (.int .i64 m) (.string xs) (.slice lo ln lc) := RdTn.keep (Hi.but hU46 (fun k (hk : w.heap.size < k ∧ k < w4.heap.size) => by omega)) _ _ _ _ _ (RdTn.low (P' := fun k => w.heap.size < k ∧ k < w4.heap.size) (fun k hk (hg : w.heap.size < k ∧ k ≠ w2.heap.size) => ⟨hg.1, hk⟩) _ _ _ _ _ hV4)
  have hW6 : RdTn (fun k => w.heap.size < k ∧ k < w6.heap.size) w6 b (.int .i64 o2) (.int .i64 m2) (.string xs2) (.slice lo2 ln2 lc2) := RdTn.low (fun k hk (hg : _ ≤ k) => by have hz : w4.drew.heap.size = w4.heap.size := rfl; rw [hz] at hg; exact ⟨by omega, hk⟩) _ _ _ _ _ hY5
  have hz1 : (w6.alloc (.cells #[.int .i64 ro, .string emp, .int .i64 0, .slice (some ⟨w6.heap.size + 1, 0, none⟩) 2 2, .slice none 0 0] 26)).heap.size = w6.heap.size + 1 := World.size_alloc ..
  have hF7 := (rb_new w6 #[.int .i64 ro, .string emp, .int .i64 0, .slice (some ⟨w6.heap.size + 1, 0, none⟩) 2 2, .slice none 0 0] 26).keep (bal (w6.alloc (.cells #[.int .i64 ro, .string emp, .int .i64 0, .slice (some ⟨w6.heap.size + 1, 0, none⟩) 2 2, .slice none 0 0] 26)) (.cells #[.int .i64 o, .int .i64 m, .string xs, .slice lo ln lc, .int .i64 o2, .int .i64 m2, .string xs2, .slice lo2 ln2 lc2] 43))
  have hG7 := rb_new (w6.alloc (.cells #[.int .i64 ro, .string emp, .int .i64 0, .slice (some ⟨w6.heap.size + 1, 0, none⟩) 2 2, .slice none 0 0] 26)) #[.int .i64 o, .int .i64 m, .string xs, .slice lo ln lc, .int .i64 o2, .int .i64 m2, .string xs2, .slice lo2 ln2 lc2] 43
  rw [hz1] at hG7
  have hR7 := ((hR6).keep (bal w6 (.cells #[.int .i64 ro, .string emp, .int .i64 0, .slice (some ⟨w6.heap.size + 1, 0, none⟩) 2 2, .slice none 0 0] 26))).keep (bal (w6.alloc (.cells #[.int .i64 ro, .string emp, .int .i64 0, .slice (some ⟨w6.heap.size + 1, 0, none⟩) 2 2, .slice none 0 0] 26)) (.cells #[.int .i64 o, .int .i64 m, .string xs, .slice lo ln lc, .int .i64 o2, .int .i64 m2, .string xs2, .slice lo2 ln2 lc2] 43))
  have hU7 := (hU6.trans (Bux.of (bal w6 (.cells #[.int .i64 ro, .string emp, .int .i64 0, .slice (some ⟨w6.heap.size + 1, 0, none⟩) 2 2, .slice none 0 0] 26)))).trans (Bux.of (bal (w6.alloc (.cells #[.int .i64 ro, .string emp, .int .i64 0, .slice (some ⟨w6.heap.size + 1, 0, none⟩) 2 2, .slice none 0 0] 26)) (.cells #[.int .i64 o, .int .i64 m, .string xs, .slice lo ln lc, .int .i64 o2, .int .i64 m2, .string xs2, .slice lo2 ln2 lc2] 43)))
  have h7 := (h6.alloc (.cells #[.int .i64 ro, .string emp, .int .i64 0, .slice (some ⟨w6.heap.size + 1, 0, none⟩) 2 2, .slice none 0 0] 26)).alloc (.cells #[.int .i64 o, .int .i64 m, .string xs, .slice lo ln lc, .int .i64 o2, .int .i64 m2, .string xs2, .slice lo2 ln2 lc2] 43)
  have hV7 : RdTn (fun k => w.heap.size < k ∧ k ≠ w6.heap.size) ((w6.alloc (.cells #[.int .i64 ro, .string emp, .int .i64 0, .slice (some ⟨w6.heap.size + 1, 0, none⟩) 2 2, .slice none 0 0] 26)).alloc (.cells #[.int .i64 o, .int .i64 m, .string xs, .slice lo ln lc, .int .i64 o2, .int .i64 m2, .string xs2, .slice lo2 ln2 lc2] 43)) a (.int .i64 o) (.int .i64 m) (.string xs) (.slice lo ln lc) := RdTn.keep (Hi.of (bal (w6.alloc (.cells #[.int .i64 ro, .string emp, .int .i64 0, .slice (some ⟨w6.heap.size + 1, 0, none⟩) 2 2, .slice none 0 0] 26)) (.cells #[.int .i64 o, .int .i64 m, .string xs, .slice lo ln lc, .int .i64 o2, .int .i64 m2, .string xs2, .slice lo2 ln2 lc2] 43))) _ _ _ _ _ (RdTn.keep (Hi.of (bal w6 (.cells #[.int .i64 ro, .string emp, .int .i64 0, .slice (some ⟨w6.heap.size + 1, 0, none⟩) 2 2, .slice none 0 0] 26))) _ _ _ _ _ (RdTn.low (fun k hk (hg : w.heap.size < k ∧ k < w4.heap.size) => ⟨hg.1, by omega⟩) _ _ _ _ _ hV6))
  have hW7 : RdTn (fun k => w.heap.size < k ∧ k ≠ w6.heap.size) ((w6.alloc (.cells #[.int .i64 ro, .string emp, .int .i64 0, .slice (some ⟨w6.heap.size + 1, 0, none⟩) 2 2, .slice none 0 0] 26)).alloc (.cells #[.int .i64 o, .int .i64 m, .string xs, .slice lo ln lc, .int .i64 o2, .int .i64 m2, .string xs2, .slice lo2 ln2 lc2] 43)) b (.int .i64 o2) (.int .i64 m2) (.string xs2) (.slice lo2 ln2 lc2) := RdTn.keep (Hi.of (bal (w6.alloc (.cells #[.int .i64 ro, .string emp, .int .i64 0, .slice (some ⟨w6.heap.size + 1, 0, none⟩) 2 2, .slice none 0 0] 26)) (.cells #[.int .i64 o, .int .i64 m, .string xs, .slice lo ln lc, .int .i64 o2, .int .i64 m2, .string xs2, .slice lo2 ln2 lc2] 43))) _ _ _ _ _ (RdTn.keep (Hi.of (bal w6 (.cells #[.int .i64 ro, .string emp, .int .i64 0, .slice (some ⟨w6.heap.size + 1, 0, none⟩) 2 2, .slice none 0 0] 26))) _ _ _ _ _ (RdTn.low (fun k hk (hg : w.heap.size < k ∧ k < w6.heap.size) => ⟨hg.1, by omega⟩) _ _ _ _ _ hW6))
  have hb5 : w.heap.size < w6.heap.size ∧ X.W.heap.size ≤ w6.heap.size ∧ X.b < w6.heap.size := ⟨by omega, by omega, by omega⟩
  have hbs : w.heap.size < w6.heap.size + 1 ∧ w6.heap.size + 1 ≠ w6.heap.size := ⟨by omega, by omega⟩
  clear h6 hC6 hU46 hX6 hX6l hs46 hY5 hR6 hU6 hV6 hW6 hz1
  generalize ((w6.alloc (.cells #[.int .i64 ro, .string emp, .int .i64 0, .slice (some ⟨w6.heap.size + 1, 0, none⟩) 2 2, .slice none 0 0] 26)).alloc (.cells #[.int .i64 o, .int .i64 m, .string xs, .slice lo ln lc, .int .i64 o2, .int .i64 m2, .string xs2, .slice lo2 ln2 lc2] 43)) = w7 at h7 hU7 hR7 hF7 hG7 hV7 hW7 ⊢
  generalize w6.heap.size + 1 = gs at hF7 hG7 hV7 hW7 hb5 hbs ⊢
  generalize w6.heap.size = g5 at hF7 hG7 hV7 hW7 hb5 hbs ⊢
  rotate_left
  have hz0 : (w4.alloc (.cells zF 26)).drew.heap.size = w4.heap.size + 1 := World.size_alloc ..
  have hs47 := hC6.size
  rw [hz0] at hs47
  have hR6 := hR4.but hU46 (by omega)
  have hU6 := hU4.trans hU46
  have hV6 : RdTn (fun k => w.heap.size < k ∧ k < w4.heap.size) w6 a (.int .i64 o) (.int .i64 m) (.string xs) (.slice lo ln lc) := RdTn.keep (Hi.but hU46 (fun k (hk : w.heap.size < k ∧ k < w4.heap.size) => by omega)) _ _ _ _ _ (RdTn.low (P' := fun k => w.heap.size < k ∧ k < w4.heap.size) (fun k hk (hg : w.heap.size < k ∧ k ≠ w2.heap.size) => ⟨hg.1, hk⟩) _ _ _ _ _ hV4)
  have hW6 : RdTn (fun k => w.heap.size < k ∧ k ≠ w4.heap.size) w6 b (.int .i64 o2) (.int .i64 m2) (.string xs2) (.slice lo2 ln2 lc2) := RdTn.low (fun k hk (hg : _ ≤ k) => by rw [hz0] at hg; exact ⟨by omega, by omega⟩) _ _ _ _ _ hY5
  have hG7 : Rb ((((((w6.alloc (.cells #[.int .i64 o, .int .i64 m, .string xs, .slice lo ln lc, .int .i64 o2, .int .i64 m2, .string xs2, .slice lo2 ln2 lc2] 43)).setCell ⟨w4.heap.size, 0, none⟩ (.int .i64 ro)).setCell ⟨w4.heap.size, 1, none⟩ (.string emp)).setCell ⟨w4.heap.size, 2, none⟩ (.int .i64 0)).setCell ⟨w4.heap.size, 3, none⟩ (.slice (some ⟨w6.heap.size, 0, none⟩) 2 2)).setCell ⟨w4.heap.size, 4, none⟩ (.slice none 0 0)) w6.heap.size #[.int .i64 o, .int .i64 m, .string xs, .slice lo ln lc, .int .i64 o2, .int .i64 m2, .string xs2, .slice lo2 ln2 lc2] 43 := ((((((((((rb_new w6 #[.int .i64 o, .int .i64 m, .string xs, .slice lo ln lc, .int .i64 o2, .int .i64 m2, .string xs2, .slice lo2 ln2 lc2] 43).other (X := w4.heap.size) (by omega) 0 (.int .i64 ro))).other (X := w4.heap.size) (by omega) 1 (.string emp))).other (X := w4.heap.size) (by omega) 2 (.int .i64 0))).other (X := w4.heap.size) (by omega) 3 (.slice (some ⟨w6.heap.size, 0, none⟩) 2 2))).other (X := w4.heap.size) (by omega) 4 (.slice none 0 0))
  have hF7 : Rb ((((((w6.alloc (.cells #[.int .i64 o, .int .i64 m, .string xs, .slice lo ln lc, .int .i64 o2, .int .i64 m2, .string xs2, .slice lo2 ln2 lc2] 43)).setCell ⟨w4.heap.size, 0, none⟩ (.int .i64 ro)).setCell ⟨w4.heap.size, 1, none⟩ (.string emp)).setCell ⟨w4.heap.size, 2, none⟩ (.int .i64 0)).setCell ⟨w4.heap.size, 3, none⟩ (.slice (some ⟨w6.heap.size, 0, none⟩) 2 2)).setCell ⟨w4.heap.size, 4, none⟩ (.slice none 0 0)) w4.heap.size #[.int .i64 ro, .string emp, .int .i64 0, .slice (some ⟨w6.heap.size, 0, none⟩) 2 2, .slice none 0 0] 26 := rb_five hT7 rfl (.int .i64 ro) (.string emp) (.int .i64 0) (.slice (some ⟨w6.heap.size, 0, none⟩) 2 2) (.slice none 0 0)
  have hR7 : Rb ((((((w6.alloc (.cells #[.int .i64 o, .int .i64 m, .string xs, .slice lo ln lc, .int .i64 o2, .int .i64 m2, .string xs2, .slice lo2 ln2 lc2] 43)).setCell ⟨w4.heap.size, 0, none⟩ (.int .i64 ro)).setCell ⟨w4.heap.size, 1, none⟩ (.string emp)).setCell ⟨w4.heap.size, 2, none⟩ (.int .i64 0)).setCell ⟨w4.heap.size, 3, none⟩ (.slice (some ⟨w6.heap.size, 0, none⟩) 2 2)).setCell ⟨w4.heap.size, 4, none⟩ (.slice none 0 0)) w.heap.size zF 26 := ((((((((((hR6.keep (bal w6 (.cells #[.int .i64 o, .int .i64 m, .string xs, .slice lo ln lc, .int .i64 o2, .int .i64 m2, .string xs2, .slice lo2 ln2 lc2] 43))).other (X := w4.heap.size) (by omega) 0 (.int .i64 ro))).other (X := w4.heap.size) (by omega) 1 (.string emp))).other (X := w4.heap.size) (by omega) 2 (.int .i64 0))).other (X := w4.heap.size) (by omega) 3 (.slice (some ⟨w6.heap.size, 0, none⟩) 2 2))).other (X := w4.heap.size) (by omega) 4 (.slice none 0 0))
  have hU7 : Bux X.b w ((((((w6.alloc (.cells #[.int .i64 o, .int .i64 m, .string xs, .slice lo ln lc, .int .i64 o2, .int .i64 m2, .string xs2, .slice lo2 ln2 lc2] 43)).setCell ⟨w4.heap.size, 0, none⟩ (.int .i64 ro)).setCell ⟨w4.heap.size, 1, none⟩ (.string emp)).setCell ⟨w4.heap.size, 2, none⟩ (.int .i64 0)).setCell ⟨w4.heap.size, 3, none⟩ (.slice (some ⟨w6.heap.size, 0, none⟩) 2 2)).setCell ⟨w4.heap.size, 4, none⟩ (.slice none 0 0)) := (hU6.trans (Bux.of (bal w6 (.cells #[.int .i64 o, .int .i64 m, .string xs, .slice lo ln lc, .int .i64 o2, .int .i64 m2, .string xs2, .slice lo2 ln2 lc2] 43)))).st5 (B := w4.heap.size) (by omega) (.int .i64 ro) (.string emp) (.int .i64 0) (.slice (some ⟨w6.heap.size, 0, none⟩) 2 2) (.slice none 0 0)
  have h7 : Ds X ((((((w6.alloc (.cells #[.int .i64 o, .int .i64 m, .string xs, .slice lo ln lc, .int .i64 o2, .int .i64 m2, .string xs2, .slice lo2 ln2 lc2] 43)).setCell ⟨w4.heap.size, 0, none⟩ (.int .i64 ro)).setCell ⟨w4.heap.size, 1, none⟩ (.string emp)).setCell ⟨w4.heap.size, 2, none⟩ (.int .i64 0)).setCell ⟨w4.heap.size, 3, none⟩ (.slice (some ⟨w6.heap.size, 0, none⟩) 2 2)).setCell ⟨w4.heap.size, 4, none⟩ (.slice none 0 0)) r3.pos := (h6.alloc (.cells #[.int .i64 o, .int .i64 m, .string xs, .slice lo ln lc, .int .i64 o2, .int .i64 m2, .string xs2, .slice lo2 ln2 lc2] 43)).st5 (B := w4.heap.size) (by omega) (by omega) (.int .i64 ro) (.string emp) (.int .i64 0) (.slice (some ⟨w6.heap.size, 0, none⟩) 2 2) (.slice none 0 0)
  have hV7 : RdTn (fun k => w.heap.size < k ∧ k ≠ w4.heap.size) ((((((w6.alloc (.cells #[.int .i64 o, .int .i64 m, .string xs, .slice lo ln lc, .int .i64 o2, .int .i64 m2, .string xs2, .slice lo2 ln2 lc2] 43)).setCell ⟨w4.heap.size, 0, none⟩ (.int .i64 ro)).setCell ⟨w4.heap.size, 1, none⟩ (.string emp)).setCell ⟨w4.heap.size, 2, none⟩ (.int .i64 0)).setCell ⟨w4.heap.size, 3, none⟩ (.slice (some ⟨w6.heap.size, 0, none⟩) 2 2)).setCell ⟨w4.heap.size, 4, none⟩ (.slice none 0 0)) a (.int .i64 o) (.int .i64 m) (.string xs) (.slice lo ln lc) := RdTn.keep (Hi.st5 (fun k (hk : w.heap.size < k ∧ k ≠ w4.heap.size) => hk.2) (w6.alloc (.cells #[.int .i64 o, .int .i64 m, .string xs, .slice lo ln lc, .int .i64 o2, .int .i64 m2, .string xs2, .slice lo2 ln2 lc2] 43)) (.int .i64 ro) (.string emp) (.int .i64 0) (.slice (some ⟨w6.heap.size, 0, none⟩) 2 2) (.slice none 0 0)) _ _ _ _ _ (RdTn.keep (Hi.of (bal w6 (.cells #[.int .i64 o, .int .i64 m, .string xs, .slice lo ln lc, .int .i64 o2, .int .i64 m2, .string xs2, .slice lo2 ln2 lc2] 43))) _ _ _ _ _ (RdTn.low (fun k hk (hg : w.heap.size < k ∧ k < w4.heap.size) => ⟨hg.1, by omega⟩) _ _ _ _ _ hV6))
  have hW7 : RdTn (fun k => w.heap.size < k ∧ k ≠ w4.heap.size) ((((((w6.alloc (.cells #[.int .i64 o, .int .i64 m, .string xs, .slice lo ln lc, .int .i64 o2, .int .i64 m2, .string xs2, .slice lo2 ln2 lc2] 43)).setCell ⟨w4.heap.size, 0, none⟩ (.int .i64 ro)).setCell ⟨w4.heap.size, 1, none⟩ (.string emp)).setCell ⟨w4.heap.size, 2, none⟩ (.int .i64 0)).setCell ⟨w4.heap.size, 3, none⟩ (.slice (some ⟨w6.heap.size, 0, none⟩) 2 2)).setCell ⟨w4.heap.size, 4, none⟩ (.slice none 0 0)) b (.int .i64 o2) (.int .i64 m2) (.string xs2) (.slice lo2 ln2 lc2) := RdTn.keep (Hi.st5 (fun k (hk : w.heap.size < k ∧ k ≠ w4.heap.size) => hk.2) (w6.alloc (.cells #[.int .i64 o, .int .i64 m, .string xs, .slice lo ln lc, .int .i64 o2, .int .i64 m2, .string xs2, .slice lo2 ln2 lc2] 43)) (.int .i64 ro) (.string emp) (.int .i64 0) (.slice (some ⟨w6.heap.size, 0, none⟩) 2 2) (.slice none 0 0)) _ _ _ _ _ (RdTn.keep (Hi.of (bal w6 (.cells #[.int .i64 o, .int .i64 m, .string xs, .slice lo ln lc, .int .i64 o2, .int .i64 m2, .string xs2, .slice lo2 ln2 lc2] 43))) _ _ _ _ _ (hW6))
  have hb5 : w.heap.size < w4.heap.size ∧ X.W.heap.size ≤ w4.heap.size ∧ X.b < w4.heap.size := ⟨by omega, by omega, by omega⟩
  have hbs : w.heap.size < w6.heap.size ∧ w6.heap.size ≠ w4.heap.size := ⟨by omega, by omega⟩
  clear h6 hC6 hU46 hX6 hX6l hs46 hY5 hR6 hU6 hV6 hW6 hz0 hs47 hT6 hT7 u0 u1 u2 u3 u4 v0 v1 v2 v3 v4
  generalize ((((((w6.alloc (.cells #[.int .i64 o, .int .i64 m, .string xs, .slice lo ln lc, .int .i64 o2, .int .i64 m2, .string xs2, .slice lo2 ln2 lc2] 43)).setCell ⟨w4.heap.size, 0, none⟩ (.int .i64 ro)).setCell ⟨w4.heap.size, 1, none⟩ (.string emp)).setCell ⟨w4.heap.size, 2, none⟩ (.int .i64 0)).setCell ⟨w4.heap.size, 3, none⟩ (.slice (some ⟨w6.heap.size, 0, none⟩) 2 2)).setCell ⟨w4.heap.size, 4, none⟩ (.slice none 0 0)) = w7 at h7 hU7 hR7 hF7 hG7 hV7 hW7 ⊢
  generalize w6.heap.size = gs at hF7 hG7 hV7 hW7 hb5 hbs ⊢
  generalize w4.heap.size = g5 at hF7 hG7 hV7 hW7 hb5 hbs ⊢
  rotate_left
  all_goals
    clear K0 hF4 h4 hX4 hR4 hU4 hV4 hDr hX4l hb4 T1 BC T3 hV2 h2 hC2 hR2 hU2 hX2 h3 hB3 hR3 hU3 hX3 hV3 h1 hR1 hB1 HQ
    obtain ⟨f0, -⟩ := txcell hF7 0 _ rfl
    obtain ⟨f1, -⟩ := txcell hF7 1 _ rfl
    obtain ⟨f2, -⟩ := txcell hF7 2 _ rfl
    obtain ⟨f3, -⟩ := txcell hF7 3 _ rfl
    obtain ⟨f4, -⟩ := txcell hF7 4 _ rfl
    obtain ⟨r0, g0⟩ := txcell hR7 0 _ rfl
    obtain ⟨r1', g1⟩ := txcell hR7 1 _ rfl
    obtain ⟨r2, g2⟩ := txcell hR7 2 _ rfl
    obtain ⟨r3', g3⟩ := txcell hR7 3 _ rfl
    obtain ⟨r4, g4⟩ := txcell hR7 4 _ rfl
    go_wp2
    have hRy := rb_five hR7 rfl (.int .i64 ro) (.string emp) (.int .i64 0) (.slice (some ⟨gs, 0, none⟩) 2 2) (.slice none 0 0)
    obtain ⟨k0, -⟩ := txcell hRy 0 _ rfl
    obtain ⟨k1, -⟩ := txcell hRy 1 _ rfl
    obtain ⟨k2, -⟩ := txcell hRy 2 _ rfl
    obtain ⟨k3, -⟩ := txcell hRy 3 _ rfl
    obtain ⟨k4, -⟩ := txcell hRy 4 _ rfl
    have hz7 : RdFn (fun k => w.heap.size < k ∧ k ≠ g5) w7 (.mk ro emp 0 [a, b] []) (.int .i64 ro) (.string emp) (.int .i64 0) (.slice (some ⟨gs, 0, none⟩) 2 2) (.slice none 0 0) := mkA2 (P := fun k => w.heap.size < k ∧ k ≠ g5) hV7 hW7 hG7 hbs ro 0 emp ⟨hro, by decide, sz_emp⟩
    have hz8 := RdFn.keep (Hi.st5 (P := fun k => w.heap.size < k ∧ k ≠ g5) (B := w.heap.size) (fun k (hk : w.heap.size < k ∧ k ≠ g5) => by omega) w7 (.int .i64 ro) (.string emp) (.int .i64 0) (.slice (some ⟨gs, 0, none⟩) 2 2) (.slice none 0 0)) _ _ _ _ _ _ hz7
    have hz9 := RdFn.low (P' := Ge w.heap.size) (fun k _ (hk : w.heap.size < k ∧ k ≠ g5) => Nat.le_of_lt hk.1) _ _ _ _ _ _ hz8
    have h9 := h7.st5 (B := w.heap.size) (by omega) hWw (.int .i64 ro) (.string emp) (.int .i64 0) (.slice (some ⟨gs, 0, none⟩) 2 2) (.slice none 0 0)
    have hU9 := hU7.st5 (Nat.le_refl _) (.int .i64 ro) (.string emp) (.int .i64 0) (.slice (some ⟨gs, 0, none⟩) 2 2) (.slice none 0 0)
    rw [← HP.out] at h9
    have hi9 := HI.out a b ha hb
    clear hV7 hW7 hG7 hF7 h7 hU7 hR7 hRy hz7 hz8 f0 f1 f2 f3 f4 r0 r1' r2 r3' r4 g0 g1 g2 g3 g4
    exact bodyPost_ret (v := .agg #[.int .i64 ro, .string emp, .int .i64 0, .slice (some ⟨gs, 0, none⟩) 2 2, .slice none 0 0]) (by simp [results, Tryz.results70, go_sem, k0, k1, k2, k3, k4]) rfl ⟨ro, emp, 0, some ⟨gs, 0, none⟩, 2, 2, none, 0, 0, _, rfl, hz9, h9, hU9, hi9⟩
set_option maxRecDepth 100000 in
set_option maxHeartbeats 8000000 in
theorem datom_no {X : Rx} {w : World} {P : Pos} {p : Nat} {r : Out Fm} {r1 r3 : Out Tm} {P4 : Pos} (h : Ds X w P) (S1 : ∀ w5, Ds X w5 P → Calls Tryz.prog 25 #[.pointer (some ⟨X.b, 0, none⟩)] w5 (DTm X w5 r1)) (S3 : ∀ w5, Ds X w5 (.at (p + 1)) → Calls Tryz.prog 25 #[.pointer (some ⟨X.b, 0, none⟩)] w5 (DTm X w5 r3)) (hq : r1.pos = .at p) (hlt : p < X.ws.length) (HBC : ∀ w3, Ds X w3 (.at p) → Calls Tryz.prog 93 #[.pointer (some ⟨X.b, 0, none⟩)] w3 fun e w' => e = .returned (.int .i64 15) ∧ Ds X w' (.at p) ∧ Below w3.heap.size w3 w')
    (hn : r3.pos.need X.ws kMod P4) (hk : ¬ P4.kinds X.ws 1) (hp : r.pos = P4.ref 71) (hi : ∀ f, r.is f) : Calls Tryz.prog 70 #[.pointer (some ⟨X.b, 0, none⟩)] w (DFm X w r) := by
  have hbw := h.lt
  have hWw := h.below.size
  have hR1 := rb_new w zF 26
  have h1 := h.alloc (.cells zF 26)
  have hB1 : Bux X.b w (w.alloc (.cells zF 26)) := Bux.of (bal w _)
  have T1 := mkHid (S1 _ h1)
  have BC := mkHid HBC
  have T3 := mkHid S3
  have HQ := mkHid hq
  have HP := mkHid hp
  have HI := mkHid hi
  have HN := mkHid hn
  have HK := mkHid hk
  clear hp hi hn hk
  clear S1 S3 hq HBC
  go_enter Tryz.func70, Tryz.ntmps70
  go_wp2_with (first
    | (go_at_call 25; refine (T1.out).mono ?_; rintro e w2 ⟨o, m, xs, lo, ln, lc, a, rfl, hV2, h2, hC2, ha⟩; rw [HQ.out] at h2; have hR2 := (hR1.but hC2 (by omega)).keep (bal w2 (.cells #[.int .i64 o, .int .i64 m, .string xs, .slice lo ln lc] 43)); have hU2 := (hB1.trans hC2).trans (Bux.of (bal w2 (.cells #[.int .i64 o, .int .i64 m, .string xs, .slice lo ln lc] 43))); have hX2 := rb_new w2 #[.int .i64 o, .int .i64 m, .string xs, .slice lo ln lc] 43; have hs2 : w.heap.size < w2.heap.size := (Array.getElem?_eq_some_iff.1 (hR1.but hC2 (by omega))).1; have hb2 := h2.lt)
    | (go_at_call 93; refine (BC.out _ (h2.alloc _)).mono ?_; rintro e w3 ⟨rfl, h3, hB3⟩; have hR3 := hR2.keep hB3; have hU3 := hU2.trans (Bux.of hB3); have hX3 := hX2.keep hB3; have hV3 : RdTn (fun k => w.heap.size < k ∧ k ≠ w2.heap.size) w3 a (.int .i64 o) (.int .i64 m) (.string xs) (.slice lo ln lc) := RdTn.keep (Hi.of hB3) _ _ _ _ _ (RdTn.keep (Hi.of (bal w2 _)) _ _ _ _ _ (RdTn.low (P' := fun k => w.heap.size < k ∧ k ≠ w2.heap.size) (fun k hk (hg : _ ≤ k) => ⟨by simp only [World.size_alloc] at hg; omega, by omega⟩) _ _ _ _ _ hV2)); obtain ⟨t1, f1⟩ := txcell h3.at'.2 1 _ rfl; have hsm := h3.small))
  obtain ⟨h4, hC4⟩ := h3.next hlt
  clear t1 f1
  have hX4 := hX3.but hC4 (by omega)
  have hR4 := hR3.but hC4 (by omega)
  have hU4 := hU3.trans hC4
  have hV4 := RdTn.keep (Hi.but hC4 (fun k hk => by omega)) _ _ _ _ _ hV3
  clear hC4
  generalize w3.setCell ⟨X.b, 1, none⟩ (.int .i64 ((p : Int) + 1)) = w4 at h4 hX4 hR4 hU4 hV4 ⊢
  obtain ⟨x0, -⟩ := txcell hX4 0 _ rfl
  obtain ⟨x1, -⟩ := txcell hX4 1 _ rfl
  obtain ⟨x2, -⟩ := txcell hX4 2 _ rfl
  obtain ⟨x3, -⟩ := txcell hX4 3 _ rfl
  have hX4l := (Array.getElem?_eq_some_iff.1 hX4).1
  have hb4 := h4.lt
  have hDr : Bux X.b w4 w4 := Bux.refl _ _
  have hF4 := rb_new w4 zF 26
  have K0 : Hid (∀ w', Rb w' w2.heap.size #[.int .i64 o, .int .i64 m, .string xs, .slice lo ln lc] 43 → w'.cell? ⟨w2.heap.size, 0, none⟩ = some (.int .i64 o) ∧ w'.cell? ⟨w2.heap.size, 1, none⟩ = some (.int .i64 m) ∧ w'.cell? ⟨w2.heap.size, 2, none⟩ = some (.string xs) ∧ w'.cell? ⟨w2.heap.size, 3, none⟩ = some (.slice lo ln lc)) := fun w' hX => ⟨(txcell hX 0 _ rfl).1, (txcell hX 1 _ rfl).1, (txcell hX 2 _ rfl).1, (txcell hX 3 _ rfl).1⟩
  clear x0 x1 x2 x3
  go_region_held3 (fun w' => w'.cell? ⟨w2.heap.size, 0, none⟩ = some (.int .i64 o) ∧ w'.cell? ⟨w2.heap.size, 1, none⟩ = some (.int .i64 m) ∧ w'.cell? ⟨w2.heap.size, 2, none⟩ = some (.string xs) ∧ w'.cell? ⟨w2.heap.size, 3, none⟩ = some (.slice lo ln lc))
    ((refine K0.out _ ?_; with_reducible (repeat (first | exact hX4 | exact hX6 | refine rbA ?_ _ | refine rbD ?_ | refine Rb.other ?_ (by omega) _ _))))
    (first
      | (go_at_call 25; refine (T3.out _ ?_).mono ?_; (with_reducible exact h4.drew); rintro e w6 ⟨o2, m2, xs2, lo2, ln2, lc2, b, rfl, hY5, h6, hC6, hb⟩; have hU46 : Bux X.b w4 w6 := (buxD hDr).trans hC6; have hX6 := hX4.but hU46 (by omega); have hX6l := rb_lt hX6; have hs46 := hU46.size)
      | (go_at_call 25; refine (T3.out _ ?_).mono ?_; (with_reducible exact (h4.alloc _).drew); rintro e w6 ⟨o2, m2, xs2, lo2, ln2, lc2, b, rfl, hY5, h6, hC6, hb⟩; have hU46 : Bux X.b w4 w6 := (buxD (buxA hDr _)).trans hC6; have hX6 := hX4.but hU46 (by omega); have hX6l := rb_lt hX6; have hs46 := hU46.size; have hT6 := Rb.but (rbD hF4) hC6 (show w4.heap.size ≠ X.b by omega); have hT7 := hT6.keep (bal w6 (.cells #[.int .i64 o, .int .i64 m, .string xs, .slice lo ln lc, .int .i64 o2, .int .i64 m2, .string xs2, .slice lo2 ln2 lc2] 43)); obtain ⟨u0, v0⟩ := txcell hT7 0 _ rfl; obtain ⟨u1, v1⟩ := txcell hT7 1 _ rfl; obtain ⟨u2, v2⟩ := txcell hT7 2 _ rfl; obtain ⟨u3, v3⟩ := txcell hT7 3 _ rfl; obtain ⟨u4, v4⟩ := txcell hT7 4 _ rfl))
  all_goals (rename_i hHeld; clear hHeld)
  have hR6 := hR4.but hU46 (by omega)
  have hU6 := hU4.trans hU46
  have hV6 : RdTn (fun k => w.heap.size < k ∧ k < w4.heap.size) w6 a (.int .i64 o) (.int .i64 m) (.string xs) (.slice lo ln lc) := RdTn.keep (Hi.but hU46 (fun k (hk : w.heap.size < k ∧ k < w4.heap.size) => by omega)) _ _ _ _ _ (RdTn.low (P' := fun k => w.heap.size < k ∧ k < w4.heap.size) (fun k hk (hg : w.heap.size < k ∧ k ≠ w2.heap.size) => ⟨hg.1, hk⟩) _ _ _ _ _ hV4)
  have hW6 : RdTn (fun k => w.heap.size < k ∧ k < w6.heap.size) w6 b (.int .i64 o2) (.int .i64 m2) (.string xs2) (.slice lo2 ln2 lc2) := RdTn.low (fun k hk (hg : _ ≤ k) => by have hz : w4.drew.heap.size = w4.heap.size := rfl; rw [hz] at hg; exact ⟨by omega, hk⟩) _ _ _ _ _ hY5
  have hz1 : (w6.alloc (.cells #[.int .i64 o, .int .i64 m, .string xs, .slice lo ln lc, .int .i64 o2, .int .i64 m2, .string xs2, .slice lo2 ln2 lc2] 43)).heap.size = w6.heap.size + 1 := World.size_alloc ..
  have hG7 := (rb_new w6 #[.int .i64 o, .int .i64 m, .string xs, .slice lo ln lc, .int .i64 o2, .int .i64 m2, .string xs2, .slice lo2 ln2 lc2] 43).keep (bal (w6.alloc (.cells #[.int .i64 o, .int .i64 m, .string xs, .slice lo ln lc, .int .i64 o2, .int .i64 m2, .string xs2, .slice lo2 ln2 lc2] 43)) (.cells #[.int .i64 15, .string emp, .int .i64 0, .slice (some ⟨w6.heap.size, 0, none⟩) 2 2, .slice none 0 0] 26))
  have hF7 := rb_new (w6.alloc (.cells #[.int .i64 o, .int .i64 m, .string xs, .slice lo ln lc, .int .i64 o2, .int .i64 m2, .string xs2, .slice lo2 ln2 lc2] 43)) #[.int .i64 15, .string emp, .int .i64 0, .slice (some ⟨w6.heap.size, 0, none⟩) 2 2, .slice none 0 0] 26
  rw [hz1] at hF7
  have hR7 := ((hR6).keep (bal w6 (.cells #[.int .i64 o, .int .i64 m, .string xs, .slice lo ln lc, .int .i64 o2, .int .i64 m2, .string xs2, .slice lo2 ln2 lc2] 43))).keep (bal (w6.alloc (.cells #[.int .i64 o, .int .i64 m, .string xs, .slice lo ln lc, .int .i64 o2, .int .i64 m2, .string xs2, .slice lo2 ln2 lc2] 43)) (.cells #[.int .i64 15, .string emp, .int .i64 0, .slice (some ⟨w6.heap.size, 0, none⟩) 2 2, .slice none 0 0] 26))
  have hU7 := (hU6.trans (Bux.of (bal w6 (.cells #[.int .i64 o, .int .i64 m, .string xs, .slice lo ln lc, .int .i64 o2, .int .i64 m2, .string xs2, .slice lo2 ln2 lc2] 43)))).trans (Bux.of (bal (w6.alloc (.cells #[.int .i64 o, .int .i64 m, .string xs, .slice lo ln lc, .int .i64 o2, .int .i64 m2, .string xs2, .slice lo2 ln2 lc2] 43)) (.cells #[.int .i64 15, .string emp, .int .i64 0, .slice (some ⟨w6.heap.size, 0, none⟩) 2 2, .slice none 0 0] 26)))
  have h7 := (h6.alloc (.cells #[.int .i64 o, .int .i64 m, .string xs, .slice lo ln lc, .int .i64 o2, .int .i64 m2, .string xs2, .slice lo2 ln2 lc2] 43)).alloc (.cells #[.int .i64 15, .string emp, .int .i64 0, .slice (some ⟨w6.heap.size, 0, none⟩) 2 2, .slice none 0 0] 26)
  have hV7 : RdTn (fun k => w.heap.size < k ∧ k ≠ w6.heap.size + 1) ((w6.alloc (.cells #[.int .i64 o, .int .i64 m, .string xs, .slice lo ln lc, .int .i64 o2, .int .i64 m2, .string xs2, .slice lo2 ln2 lc2] 43)).alloc (.cells #[.int .i64 15, .string emp, .int .i64 0, .slice (some ⟨w6.heap.size, 0, none⟩) 2 2, .slice none 0 0] 26)) a (.int .i64 o) (.int .i64 m) (.string xs) (.slice lo ln lc) := RdTn.keep (Hi.of (bal (w6.alloc (.cells #[.int .i64 o, .int .i64 m, .string xs, .slice lo ln lc, .int .i64 o2, .int .i64 m2, .string xs2, .slice lo2 ln2 lc2] 43)) (.cells #[.int .i64 15, .string emp, .int .i64 0, .slice (some ⟨w6.heap.size, 0, none⟩) 2 2, .slice none 0 0] 26))) _ _ _ _ _ (RdTn.keep (Hi.of (bal w6 (.cells #[.int .i64 o, .int .i64 m, .string xs, .slice lo ln lc, .int .i64 o2, .int .i64 m2, .string xs2, .slice lo2 ln2 lc2] 43))) _ _ _ _ _ (RdTn.low (fun k hk (hg : w.heap.size < k ∧ k < w4.heap.size) => ⟨hg.1, by omega⟩) _ _ _ _ _ hV6))
  have hW7 : RdTn (fun k => w.heap.size < k ∧ k ≠ w6.heap.size + 1) ((w6.alloc (.cells #[.int .i64 o, .int .i64 m, .string xs, .slice lo ln lc, .int .i64 o2, .int .i64 m2, .string xs2, .slice lo2 ln2 lc2] 43)).alloc (.cells #[.int .i64 15, .string emp, .int .i64 0, .slice (some ⟨w6.heap.size, 0, none⟩) 2 2, .slice none 0 0] 26)) b (.int .i64 o2) (.int .i64 m2) (.string xs2) (.slice lo2 ln2 lc2) := RdTn.keep (Hi.of (bal (w6.alloc (.cells #[.int .i64 o, .int .i64 m, .string xs, .slice lo ln lc, .int .i64 o2, .int .i64 m2, .string xs2, .slice lo2 ln2 lc2] 43)) (.cells #[.int .i64 15, .string emp, .int .i64 0, .slice (some ⟨w6.heap.size, 0, none⟩) 2 2, .slice none 0 0] 26))) _ _ _ _ _ (RdTn.keep (Hi.of (bal w6 (.cells #[.int .i64 o, .int .i64 m, .string xs, .slice lo ln lc, .int .i64 o2, .int .i64 m2, .string xs2, .slice lo2 ln2 lc2] 43))) _ _ _ _ _ (RdTn.low (fun k hk (hg : w.heap.size < k ∧ k < w6.heap.size) => ⟨hg.1, by omega⟩) _ _ _ _ _ hW6))
  have hb5 : w.heap.size < w6.heap.size + 1 ∧ X.W.heap.size ≤ w6.heap.size + 1 ∧ X.b < w6.heap.size + 1 := ⟨by omega, by omega, by omega⟩
  have hbs : w.heap.size < w6.heap.size ∧ w6.heap.size ≠ w6.heap.size + 1 := ⟨by omega, by omega⟩
  clear h6 hC6 hU46 hX6 hX6l hs46 hY5 hR6 hU6 hV6 hW6 hz1
  generalize ((w6.alloc (.cells #[.int .i64 o, .int .i64 m, .string xs, .slice lo ln lc, .int .i64 o2, .int .i64 m2, .string xs2, .slice lo2 ln2 lc2] 43)).alloc (.cells #[.int .i64 15, .string emp, .int .i64 0, .slice (some ⟨w6.heap.size, 0, none⟩) 2 2, .slice none 0 0] 26)) = w7 at h7 hU7 hR7 hF7 hG7 hV7 hW7 ⊢
  generalize w6.heap.size + 1 = g5 at hF7 hG7 hV7 hW7 hb5 hbs ⊢
  generalize w6.heap.size = gs at hF7 hG7 hV7 hW7 hb5 hbs ⊢
  rotate_left
  have hR6 := hR4.but hU46 (by omega)
  have hU6 := hU4.trans hU46
  have hV6 : RdTn (fun k => w.heap.size < k ∧ k < w4.heap.size) w6 a (.int .i64 o) (.int .i64 m) (.string xs) (.slice lo ln lc) := RdTn.keep (Hi.but hU46 (fun k (hk : w.heap.size < k ∧ k < w4.heap.size) => by omega)) _ _ _ _ _ (RdTn.low (P' := fun k => w.heap.size < k ∧ k < w4.heap.size) (fun k hk (hg : w.heap.size < k ∧ k ≠ w2.heap.size) => ⟨hg.1, hk⟩) _ _ _ _ _ hV4)
  have hW6 : RdTn (fun k => w.heap.size < k ∧ k < w6.heap.size) w6 b (.int .i64 o2) (.int .i64 m2) (.string xs2) (.slice lo2 ln2 lc2) := RdTn.low (fun k hk (hg : _ ≤ k) => by have hz : w4.drew.heap.size = w4.heap.size := rfl; rw [hz] at hg; exact ⟨by omega, hk⟩) _ _ _ _ _ hY5
  have hz1 : (w6.alloc (.cells #[.int .i64 15, .string emp, .int .i64 0, .slice (some ⟨w6.heap.size + 1, 0, none⟩) 2 2, .slice none 0 0] 26)).heap.size = w6.heap.size + 1 := World.size_alloc ..
  have hF7 := (rb_new w6 #[.int .i64 15, .string emp, .int .i64 0, .slice (some ⟨w6.heap.size + 1, 0, none⟩) 2 2, .slice none 0 0] 26).keep (bal (w6.alloc (.cells #[.int .i64 15, .string emp, .int .i64 0, .slice (some ⟨w6.heap.size + 1, 0, none⟩) 2 2, .slice none 0 0] 26)) (.cells #[.int .i64 o, .int .i64 m, .string xs, .slice lo ln lc, .int .i64 o2, .int .i64 m2, .string xs2, .slice lo2 ln2 lc2] 43))
  have hG7 := rb_new (w6.alloc (.cells #[.int .i64 15, .string emp, .int .i64 0, .slice (some ⟨w6.heap.size + 1, 0, none⟩) 2 2, .slice none 0 0] 26)) #[.int .i64 o, .int .i64 m, .string xs, .slice lo ln lc, .int .i64 o2, .int .i64 m2, .string xs2, .slice lo2 ln2 lc2] 43
  rw [hz1] at hG7
  have hR7 := ((hR6).keep (bal w6 (.cells #[.int .i64 15, .string emp, .int .i64 0, .slice (some ⟨w6.heap.size + 1, 0, none⟩) 2 2, .slice none 0 0] 26))).keep (bal (w6.alloc (.cells #[.int .i64 15, .string emp, .int .i64 0, .slice (some ⟨w6.heap.size + 1, 0, none⟩) 2 2, .slice none 0 0] 26)) (.cells #[.int .i64 o, .int .i64 m, .string xs, .slice lo ln lc, .int .i64 o2, .int .i64 m2, .string xs2, .slice lo2 ln2 lc2] 43))
  have hU7 := (hU6.trans (Bux.of (bal w6 (.cells #[.int .i64 15, .string emp, .int .i64 0, .slice (some ⟨w6.heap.size + 1, 0, none⟩) 2 2, .slice none 0 0] 26)))).trans (Bux.of (bal (w6.alloc (.cells #[.int .i64 15, .string emp, .int .i64 0, .slice (some ⟨w6.heap.size + 1, 0, none⟩) 2 2, .slice none 0 0] 26)) (.cells #[.int .i64 o, .int .i64 m, .string xs, .slice lo ln lc, .int .i64 o2, .int .i64 m2, .string xs2, .slice lo2 ln2 lc2] 43)))
  have h7 := (h6.alloc (.cells #[.int .i64 15, .string emp, .int .i64 0, .slice (some ⟨w6.heap.size + 1, 0, none⟩) 2 2, .slice none 0 0] 26)).alloc (.cells #[.int .i64 o, .int .i64 m, .string xs, .slice lo ln lc, .int .i64 o2, .int .i64 m2, .string xs2, .slice lo2 ln2 lc2] 43)
  have hV7 : RdTn (fun k => w.heap.size < k ∧ k ≠ w6.heap.size) ((w6.alloc (.cells #[.int .i64 15, .string emp, .int .i64 0, .slice (some ⟨w6.heap.size + 1, 0, none⟩) 2 2, .slice none 0 0] 26)).alloc (.cells #[.int .i64 o, .int .i64 m, .string xs, .slice lo ln lc, .int .i64 o2, .int .i64 m2, .string xs2, .slice lo2 ln2 lc2] 43)) a (.int .i64 o) (.int .i64 m) (.string xs) (.slice lo ln lc) := RdTn.keep (Hi.of (bal (w6.alloc (.cells #[.int .i64 15, .string emp, .int .i64 0, .slice (some ⟨w6.heap.size + 1, 0, none⟩) 2 2, .slice none 0 0] 26)) (.cells #[.int .i64 o, .int .i64 m, .string xs, .slice lo ln lc, .int .i64 o2, .int .i64 m2, .string xs2, .slice lo2 ln2 lc2] 43))) _ _ _ _ _ (RdTn.keep (Hi.of (bal w6 (.cells #[.int .i64 15, .string emp, .int .i64 0, .slice (some ⟨w6.heap.size + 1, 0, none⟩) 2 2, .slice none 0 0] 26))) _ _ _ _ _ (RdTn.low (fun k hk (hg : w.heap.size < k ∧ k < w4.heap.size) => ⟨hg.1, by omega⟩) _ _ _ _ _ hV6))
  have hW7 : RdTn (fun k => w.heap.size < k ∧ k ≠ w6.heap.size) ((w6.alloc (.cells #[.int .i64 15, .string emp, .int .i64 0, .slice (some ⟨w6.heap.size + 1, 0, none⟩) 2 2, .slice none 0 0] 26)).alloc (.cells #[.int .i64 o, .int .i64 m, .string xs, .slice lo ln lc, .int .i64 o2, .int .i64 m2, .string xs2, .slice lo2 ln2 lc2] 43)) b (.int .i64 o2) (.int .i64 m2) (.string xs2) (.slice lo2 ln2 lc2) := RdTn.keep (Hi.of (bal (w6.alloc (.cells #[.int .i64 15, .string emp, .int .i64 0, .slice (some ⟨w6.heap.size + 1, 0, none⟩) 2 2, .slice none 0 0] 26)) (.cells #[.int .i64 o, .int .i64 m, .string xs, .slice lo ln lc, .int .i64 o2, .int .i64 m2, .string xs2, .slice lo2 ln2 lc2] 43))) _ _ _ _ _ (RdTn.keep (Hi.of (bal w6 (.cells #[.int .i64 15, .string emp, .int .i64 0, .slice (some ⟨w6.heap.size + 1, 0, none⟩) 2 2, .slice none 0 0] 26))) _ _ _ _ _ (RdTn.low (fun k hk (hg : w.heap.size < k ∧ k < w6.heap.size) => ⟨hg.1, by omega⟩) _ _ _ _ _ hW6))
  have hb5 : w.heap.size < w6.heap.size ∧ X.W.heap.size ≤ w6.heap.size ∧ X.b < w6.heap.size := ⟨by omega, by omega, by omega⟩
  have hbs : w.heap.size < w6.heap.size + 1 ∧ w6.heap.size + 1 ≠ w6.heap.size := ⟨by omega, by omega⟩
  clear h6 hC6 hU46 hX6 hX6l hs46 hY5 hR6 hU6 hV6 hW6 hz1
  generalize ((w6.alloc (.cells #[.int .i64 15, .string emp, .int .i64 0, .slice (some ⟨w6.heap.size + 1, 0, none⟩) 2 2, .slice none 0 0] 26)).alloc (.cells #[.int .i64 o, .int .i64 m, .string xs, .slice lo ln lc, .int .i64 o2, .int .i64 m2, .string xs2, .slice lo2 ln2 lc2] 43)) = w7 at h7 hU7 hR7 hF7 hG7 hV7 hW7 ⊢
  generalize w6.heap.size + 1 = gs at hF7 hG7 hV7 hW7 hb5 hbs ⊢
  generalize w6.heap.size = g5 at hF7 hG7 hV7 hW7 hb5 hbs ⊢
  rotate_left
  have hz0 : (w4.alloc (.cells zF 26)).drew.heap.size = w4.heap.size + 1 := World.size_alloc ..
  have hs47 := hC6.size
  rw [hz0] at hs47
  have hR6 := hR4.but hU46 (by omega)
  have hU6 := hU4.trans hU46
  have hV6 : RdTn (fun k => w.heap.size < k ∧ k < w4.heap.size) w6 a (.int .i64 o) (.int .i64 m) (.string xs) (.slice lo ln lc) := RdTn.keep (Hi.but hU46 (fun k (hk : w.heap.size < k ∧ k < w4.heap.size) => by omega)) _ _ _ _ _ (RdTn.low (P' := fun k => w.heap.size < k ∧ k < w4.heap.size) (fun k hk (hg : w.heap.size < k ∧ k ≠ w2.heap.size) => ⟨hg.1, hk⟩) _ _ _ _ _ hV4)
  have hW6 : RdTn (fun k => w.heap.size < k ∧ k ≠ w4.heap.size) w6 b (.int .i64 o2) (.int .i64 m2) (.string xs2) (.slice lo2 ln2 lc2) := RdTn.low (fun k hk (hg : _ ≤ k) => by rw [hz0] at hg; exact ⟨by omega, by omega⟩) _ _ _ _ _ hY5
  have hG7 : Rb ((((((w6.alloc (.cells #[.int .i64 o, .int .i64 m, .string xs, .slice lo ln lc, .int .i64 o2, .int .i64 m2, .string xs2, .slice lo2 ln2 lc2] 43)).setCell ⟨w4.heap.size, 0, none⟩ (.int .i64 15)).setCell ⟨w4.heap.size, 1, none⟩ (.string emp)).setCell ⟨w4.heap.size, 2, none⟩ (.int .i64 0)).setCell ⟨w4.heap.size, 3, none⟩ (.slice (some ⟨w6.heap.size, 0, none⟩) 2 2)).setCell ⟨w4.heap.size, 4, none⟩ (.slice none 0 0)) w6.heap.size #[.int .i64 o, .int .i64 m, .string xs, .slice lo ln lc, .int .i64 o2, .int .i64 m2, .string xs2, .slice lo2 ln2 lc2] 43 := ((((((((((rb_new w6 #[.int .i64 o, .int .i64 m, .string xs, .slice lo ln lc, .int .i64 o2, .int .i64 m2, .string xs2, .slice lo2 ln2 lc2] 43).other (X := w4.heap.size) (by omega) 0 (.int .i64 15))).other (X := w4.heap.size) (by omega) 1 (.string emp))).other (X := w4.heap.size) (by omega) 2 (.int .i64 0))).other (X := w4.heap.size) (by omega) 3 (.slice (some ⟨w6.heap.size, 0, none⟩) 2 2))).other (X := w4.heap.size) (by omega) 4 (.slice none 0 0))
  have hF7 : Rb ((((((w6.alloc (.cells #[.int .i64 o, .int .i64 m, .string xs, .slice lo ln lc, .int .i64 o2, .int .i64 m2, .string xs2, .slice lo2 ln2 lc2] 43)).setCell ⟨w4.heap.size, 0, none⟩ (.int .i64 15)).setCell ⟨w4.heap.size, 1, none⟩ (.string emp)).setCell ⟨w4.heap.size, 2, none⟩ (.int .i64 0)).setCell ⟨w4.heap.size, 3, none⟩ (.slice (some ⟨w6.heap.size, 0, none⟩) 2 2)).setCell ⟨w4.heap.size, 4, none⟩ (.slice none 0 0)) w4.heap.size #[.int .i64 15, .string emp, .int .i64 0, .slice (some ⟨w6.heap.size, 0, none⟩) 2 2, .slice none 0 0] 26 := rb_five hT7 rfl (.int .i64 15) (.string emp) (.int .i64 0) (.slice (some ⟨w6.heap.size, 0, none⟩) 2 2) (.slice none 0 0)
  have hR7 : Rb ((((((w6.alloc (.cells #[.int .i64 o, .int .i64 m, .string xs, .slice lo ln lc, .int .i64 o2, .int .i64 m2, .string xs2, .slice lo2 ln2 lc2] 43)).setCell ⟨w4.heap.size, 0, none⟩ (.int .i64 15)).setCell ⟨w4.heap.size, 1, none⟩ (.string emp)).setCell ⟨w4.heap.size, 2, none⟩ (.int .i64 0)).setCell ⟨w4.heap.size, 3, none⟩ (.slice (some ⟨w6.heap.size, 0, none⟩) 2 2)).setCell ⟨w4.heap.size, 4, none⟩ (.slice none 0 0)) w.heap.size zF 26 := ((((((((((hR6.keep (bal w6 (.cells #[.int .i64 o, .int .i64 m, .string xs, .slice lo ln lc, .int .i64 o2, .int .i64 m2, .string xs2, .slice lo2 ln2 lc2] 43))).other (X := w4.heap.size) (by omega) 0 (.int .i64 15))).other (X := w4.heap.size) (by omega) 1 (.string emp))).other (X := w4.heap.size) (by omega) 2 (.int .i64 0))).other (X := w4.heap.size) (by omega) 3 (.slice (some ⟨w6.heap.size, 0, none⟩) 2 2))).other (X := w4.heap.size) (by omega) 4 (.slice none 0 0))
  have hU7 : Bux X.b w ((((((w6.alloc (.cells #[.int .i64 o, .int .i64 m, .string xs, .slice lo ln lc, .int .i64 o2, .int .i64 m2, .string xs2, .slice lo2 ln2 lc2] 43)).setCell ⟨w4.heap.size, 0, none⟩ (.int .i64 15)).setCell ⟨w4.heap.size, 1, none⟩ (.string emp)).setCell ⟨w4.heap.size, 2, none⟩ (.int .i64 0)).setCell ⟨w4.heap.size, 3, none⟩ (.slice (some ⟨w6.heap.size, 0, none⟩) 2 2)).setCell ⟨w4.heap.size, 4, none⟩ (.slice none 0 0)) := (hU6.trans (Bux.of (bal w6 (.cells #[.int .i64 o, .int .i64 m, .string xs, .slice lo ln lc, .int .i64 o2, .int .i64 m2, .string xs2, .slice lo2 ln2 lc2] 43)))).st5 (B := w4.heap.size) (by omega) (.int .i64 15) (.string emp) (.int .i64 0) (.slice (some ⟨w6.heap.size, 0, none⟩) 2 2) (.slice none 0 0)
  have h7 : Ds X ((((((w6.alloc (.cells #[.int .i64 o, .int .i64 m, .string xs, .slice lo ln lc, .int .i64 o2, .int .i64 m2, .string xs2, .slice lo2 ln2 lc2] 43)).setCell ⟨w4.heap.size, 0, none⟩ (.int .i64 15)).setCell ⟨w4.heap.size, 1, none⟩ (.string emp)).setCell ⟨w4.heap.size, 2, none⟩ (.int .i64 0)).setCell ⟨w4.heap.size, 3, none⟩ (.slice (some ⟨w6.heap.size, 0, none⟩) 2 2)).setCell ⟨w4.heap.size, 4, none⟩ (.slice none 0 0)) r3.pos := (h6.alloc (.cells #[.int .i64 o, .int .i64 m, .string xs, .slice lo ln lc, .int .i64 o2, .int .i64 m2, .string xs2, .slice lo2 ln2 lc2] 43)).st5 (B := w4.heap.size) (by omega) (by omega) (.int .i64 15) (.string emp) (.int .i64 0) (.slice (some ⟨w6.heap.size, 0, none⟩) 2 2) (.slice none 0 0)
  have hV7 : RdTn (fun k => w.heap.size < k ∧ k ≠ w4.heap.size) ((((((w6.alloc (.cells #[.int .i64 o, .int .i64 m, .string xs, .slice lo ln lc, .int .i64 o2, .int .i64 m2, .string xs2, .slice lo2 ln2 lc2] 43)).setCell ⟨w4.heap.size, 0, none⟩ (.int .i64 15)).setCell ⟨w4.heap.size, 1, none⟩ (.string emp)).setCell ⟨w4.heap.size, 2, none⟩ (.int .i64 0)).setCell ⟨w4.heap.size, 3, none⟩ (.slice (some ⟨w6.heap.size, 0, none⟩) 2 2)).setCell ⟨w4.heap.size, 4, none⟩ (.slice none 0 0)) a (.int .i64 o) (.int .i64 m) (.string xs) (.slice lo ln lc) := RdTn.keep (Hi.st5 (fun k (hk : w.heap.size < k ∧ k ≠ w4.heap.size) => hk.2) (w6.alloc (.cells #[.int .i64 o, .int .i64 m, .string xs, .slice lo ln lc, .int .i64 o2, .int .i64 m2, .string xs2, .slice lo2 ln2 lc2] 43)) (.int .i64 15) (.string emp) (.int .i64 0) (.slice (some ⟨w6.heap.size, 0, none⟩) 2 2) (.slice none 0 0)) _ _ _ _ _ (RdTn.keep (Hi.of (bal w6 (.cells #[.int .i64 o, .int .i64 m, .string xs, .slice lo ln lc, .int .i64 o2, .int .i64 m2, .string xs2, .slice lo2 ln2 lc2] 43))) _ _ _ _ _ (RdTn.low (fun k hk (hg : w.heap.size < k ∧ k < w4.heap.size) => ⟨hg.1, by omega⟩) _ _ _ _ _ hV6))
  have hW7 : RdTn (fun k => w.heap.size < k ∧ k ≠ w4.heap.size) ((((((w6.alloc (.cells #[.int .i64 o, .int .i64 m, .string xs, .slice lo ln lc, .int .i64 o2, .int .i64 m2, .string xs2, .slice lo2 ln2 lc2] 43)).setCell ⟨w4.heap.size, 0, none⟩ (.int .i64 15)).setCell ⟨w4.heap.size, 1, none⟩ (.string emp)).setCell ⟨w4.heap.size, 2, none⟩ (.int .i64 0)).setCell ⟨w4.heap.size, 3, none⟩ (.slice (some ⟨w6.heap.size, 0, none⟩) 2 2)).setCell ⟨w4.heap.size, 4, none⟩ (.slice none 0 0)) b (.int .i64 o2) (.int .i64 m2) (.string xs2) (.slice lo2 ln2 lc2) := RdTn.keep (Hi.st5 (fun k (hk : w.heap.size < k ∧ k ≠ w4.heap.size) => hk.2) (w6.alloc (.cells #[.int .i64 o, .int .i64 m, .string xs, .slice lo ln lc, .int .i64 o2, .int .i64 m2, .string xs2, .slice lo2 ln2 lc2] 43)) (.int .i64 15) (.string emp) (.int .i64 0) (.slice (some ⟨w6.heap.size, 0, none⟩) 2 2) (.slice none 0 0)) _ _ _ _ _ (RdTn.keep (Hi.of (bal w6 (.cells #[.int .i64 o, .int .i64 m, .string xs, .slice lo ln lc, .int .i64 o2, .int .i64 m2, .string xs2, .slice lo2 ln2 lc2] 43))) _ _ _ _ _ (hW6))
  have hb5 : w.heap.size < w4.heap.size ∧ X.W.heap.size ≤ w4.heap.size ∧ X.b < w4.heap.size := ⟨by omega, by omega, by omega⟩
  have hbs : w.heap.size < w6.heap.size ∧ w6.heap.size ≠ w4.heap.size := ⟨by omega, by omega⟩
  clear h6 hC6 hU46 hX6 hX6l hs46 hY5 hR6 hU6 hV6 hW6 hz0 hs47 hT6 hT7 u0 u1 u2 u3 u4 v0 v1 v2 v3 v4
  generalize ((((((w6.alloc (.cells #[.int .i64 o, .int .i64 m, .string xs, .slice lo ln lc, .int .i64 o2, .int .i64 m2, .string xs2, .slice lo2 ln2 lc2] 43)).setCell ⟨w4.heap.size, 0, none⟩ (.int .i64 15)).setCell ⟨w4.heap.size, 1, none⟩ (.string emp)).setCell ⟨w4.heap.size, 2, none⟩ (.int .i64 0)).setCell ⟨w4.heap.size, 3, none⟩ (.slice (some ⟨w6.heap.size, 0, none⟩) 2 2)).setCell ⟨w4.heap.size, 4, none⟩ (.slice none 0 0)) = w7 at h7 hU7 hR7 hF7 hG7 hV7 hW7 ⊢
  generalize w6.heap.size = gs at hF7 hG7 hV7 hW7 hb5 hbs ⊢
  generalize w4.heap.size = g5 at hF7 hG7 hV7 hW7 hb5 hbs ⊢
  rotate_left
  all_goals
    clear K0 hF4 h4 hX4 hR4 hU4 hV4 hDr hX4l hb4 T1 BC T3 hV2 h2 hC2 hR2 hU2 hX2 h3 hB3 hR3 hU3 hX3 hV3 h1 hR1 hB1 HQ
    go_wp2_with (first
      | (go_at_call 69; refine (dpast_at (x := kMod) h7 HN.out).mono ?_; rintro e w8 ⟨rfl, h8, hC8⟩; have hR8 := hR7.but hC8 (by omega); have hU8 := hU7.trans hC8; clear h7 hR7 hU7 hF7 hG7 hV7 hW7 hC8)
      | (go_at_call 92; refine (dkd_no (k := 1) h8 HK.out).mono ?_; rintro e w9 ⟨rfl, hB9⟩; have h9 := h8.keep hB9; have hR9 := hR8.keep hB9; have hU9 := hU8.trans (Bux.of hB9); clear h8 hR8 hU8 hB9)
      | (go_at_call 42; refine (dfail_at h9 71 (by decide)).mono ?_; rintro e w10 ⟨rfl, h10, hC10⟩; have hR10 := hR9.but hC10 (by omega); have hU10 := hU9.trans hC10; obtain ⟨r0, g0⟩ := txcell hR10 0 _ rfl; obtain ⟨r1', g1⟩ := txcell hR10 1 _ rfl; obtain ⟨r2, g2⟩ := txcell hR10 2 _ rfl; obtain ⟨r3', g3⟩ := txcell hR10 3 _ rfl; obtain ⟨r4, g4⟩ := txcell hR10 4 _ rfl))
    have hRy := rb_five hR10 rfl (.int .i64 0) (.string emp) (.int .i64 0) (.slice none 0 0) (.slice none 0 0)
    obtain ⟨k0, -⟩ := txcell hRy 0 _ rfl
    obtain ⟨k1, -⟩ := txcell hRy 1 _ rfl
    obtain ⟨k2, -⟩ := txcell hRy 2 _ rfl
    obtain ⟨k3, -⟩ := txcell hRy 3 _ rfl
    obtain ⟨k4, -⟩ := txcell hRy 4 _ rfl
    have hE9 := h10.st5 (B := w.heap.size) (by omega) hWw (.int .i64 0) (.string emp) (.int .i64 0) (.slice none 0 0) (.slice none 0 0)
    have hUE9 := hU10.st5 (Nat.le_refl _) (.int .i64 0) (.string emp) (.int .i64 0) (.slice none 0 0) (.slice none 0 0)
    rw [← HP.out] at hE9
    have hi9 := HI.out fTrue
    exact bodyPost_ret (v := .agg #[.int .i64 0, .string emp, .int .i64 0, .slice none 0 0, .slice none 0 0]) (by simp [results, Tryz.results70, go_sem, k0, k1, k2, k3, k4]) rfl ⟨_, _, _, _, _, _, _, _, _, _, rfl, leafF 0 0 emp ⟨by decide, by decide, sz_emp⟩, hE9, hUE9, hi9⟩
set_option maxRecDepth 100000 in
set_option maxHeartbeats 8000000 in
theorem datom_num {X : Rx} {w : World} {P : Pos} {p : Nat} {r : Out Fm} {r1 r3 : Out Tm} {q n : Nat} (h : Ds X w P) (S1 : ∀ w5, Ds X w5 P → Calls Tryz.prog 25 #[.pointer (some ⟨X.b, 0, none⟩)] w5 (DTm X w5 r1)) (S3 : ∀ w5, Ds X w5 (.at (p + 1)) → Calls Tryz.prog 25 #[.pointer (some ⟨X.b, 0, none⟩)] w5 (DTm X w5 r3)) (hq : r1.pos = .at p) (hlt : p < X.ws.length) (HBC : ∀ w3, Ds X w3 (.at p) → Calls Tryz.prog 93 #[.pointer (some ⟨X.b, 0, none⟩)] w3 fun e w' => e = .returned (.int .i64 15) ∧ Ds X w' (.at p) ∧ Below w3.heap.size w3 w')
    (hn : r3.pos.need X.ws kMod (.at q)) (hd : IsD X.ws q n) (hn0 : n ≠ 0) (hnn : n ≤ 9223372036854775807) (hp : r.pos = .at (q + 1)) (hi : ∀ a b, r1.is a → r3.is b → r.is (.mk 15 emp n [a, b] [])) : Calls Tryz.prog 70 #[.pointer (some ⟨X.b, 0, none⟩)] w (DFm X w r) := by
  have hbw := h.lt
  have hWw := h.below.size
  have hR1 := rb_new w zF 26
  have h1 := h.alloc (.cells zF 26)
  have hB1 : Bux X.b w (w.alloc (.cells zF 26)) := Bux.of (bal w _)
  have T1 := mkHid (S1 _ h1)
  have BC := mkHid HBC
  have T3 := mkHid S3
  have HQ := mkHid hq
  have HP := mkHid hp
  have HI := mkHid hi
  have HN := mkHid hn
  have HD := mkHid hd
  have HK : Hid ((Pos.at q).kinds X.ws 1) := kinds_of hd
  clear hp hi hn hd
  have hz0 : ((n : Int) == 0) = false := by rw [beq_eq_false_iff_ne]; omega
  clear S1 S3 hq HBC
  go_enter Tryz.func70, Tryz.ntmps70
  go_wp2_with (first
    | (go_at_call 25; refine (T1.out).mono ?_; rintro e w2 ⟨o, m, xs, lo, ln, lc, a, rfl, hV2, h2, hC2, ha⟩; rw [HQ.out] at h2; have hR2 := (hR1.but hC2 (by omega)).keep (bal w2 (.cells #[.int .i64 o, .int .i64 m, .string xs, .slice lo ln lc] 43)); have hU2 := (hB1.trans hC2).trans (Bux.of (bal w2 (.cells #[.int .i64 o, .int .i64 m, .string xs, .slice lo ln lc] 43))); have hX2 := rb_new w2 #[.int .i64 o, .int .i64 m, .string xs, .slice lo ln lc] 43; have hs2 : w.heap.size < w2.heap.size := (Array.getElem?_eq_some_iff.1 (hR1.but hC2 (by omega))).1; have hb2 := h2.lt)
    | (go_at_call 93; refine (BC.out _ (h2.alloc _)).mono ?_; rintro e w3 ⟨rfl, h3, hB3⟩; have hR3 := hR2.keep hB3; have hU3 := hU2.trans (Bux.of hB3); have hX3 := hX2.keep hB3; have hV3 : RdTn (fun k => w.heap.size < k ∧ k ≠ w2.heap.size) w3 a (.int .i64 o) (.int .i64 m) (.string xs) (.slice lo ln lc) := RdTn.keep (Hi.of hB3) _ _ _ _ _ (RdTn.keep (Hi.of (bal w2 _)) _ _ _ _ _ (RdTn.low (P' := fun k => w.heap.size < k ∧ k ≠ w2.heap.size) (fun k hk (hg : _ ≤ k) => ⟨by simp only [World.size_alloc] at hg; omega, by omega⟩) _ _ _ _ _ hV2)); obtain ⟨t1, f1⟩ := txcell h3.at'.2 1 _ rfl; have hsm := h3.small))
  obtain ⟨h4, hC4⟩ := h3.next hlt
  clear t1 f1
  have hX4 := hX3.but hC4 (by omega)
  have hR4 := hR3.but hC4 (by omega)
  have hU4 := hU3.trans hC4
  have hV4 := RdTn.keep (Hi.but hC4 (fun k hk => by omega)) _ _ _ _ _ hV3
  clear hC4
  generalize w3.setCell ⟨X.b, 1, none⟩ (.int .i64 ((p : Int) + 1)) = w4 at h4 hX4 hR4 hU4 hV4 ⊢
  obtain ⟨x0, -⟩ := txcell hX4 0 _ rfl
  obtain ⟨x1, -⟩ := txcell hX4 1 _ rfl
  obtain ⟨x2, -⟩ := txcell hX4 2 _ rfl
  obtain ⟨x3, -⟩ := txcell hX4 3 _ rfl
  have hX4l := (Array.getElem?_eq_some_iff.1 hX4).1
  have hb4 := h4.lt
  have hDr : Bux X.b w4 w4 := Bux.refl _ _
  have hF4 := rb_new w4 zF 26
  have K0 : Hid (∀ w', Rb w' w2.heap.size #[.int .i64 o, .int .i64 m, .string xs, .slice lo ln lc] 43 → w'.cell? ⟨w2.heap.size, 0, none⟩ = some (.int .i64 o) ∧ w'.cell? ⟨w2.heap.size, 1, none⟩ = some (.int .i64 m) ∧ w'.cell? ⟨w2.heap.size, 2, none⟩ = some (.string xs) ∧ w'.cell? ⟨w2.heap.size, 3, none⟩ = some (.slice lo ln lc)) := fun w' hX => ⟨(txcell hX 0 _ rfl).1, (txcell hX 1 _ rfl).1, (txcell hX 2 _ rfl).1, (txcell hX 3 _ rfl).1⟩
  clear x0 x1 x2 x3
  go_region_held3 (fun w' => w'.cell? ⟨w2.heap.size, 0, none⟩ = some (.int .i64 o) ∧ w'.cell? ⟨w2.heap.size, 1, none⟩ = some (.int .i64 m) ∧ w'.cell? ⟨w2.heap.size, 2, none⟩ = some (.string xs) ∧ w'.cell? ⟨w2.heap.size, 3, none⟩ = some (.slice lo ln lc))
    ((refine K0.out _ ?_; with_reducible (repeat (first | exact hX4 | exact hX6 | refine rbA ?_ _ | refine rbD ?_ | refine Rb.other ?_ (by omega) _ _))))
    (first
      | (go_at_call 25; refine (T3.out _ ?_).mono ?_; (with_reducible exact h4.drew); rintro e w6 ⟨o2, m2, xs2, lo2, ln2, lc2, b, rfl, hY5, h6, hC6, hb⟩; have hU46 : Bux X.b w4 w6 := (buxD hDr).trans hC6; have hX6 := hX4.but hU46 (by omega); have hX6l := rb_lt hX6; have hs46 := hU46.size)
      | (go_at_call 25; refine (T3.out _ ?_).mono ?_; (with_reducible exact (h4.alloc _).drew); rintro e w6 ⟨o2, m2, xs2, lo2, ln2, lc2, b, rfl, hY5, h6, hC6, hb⟩; have hU46 : Bux X.b w4 w6 := (buxD (buxA hDr _)).trans hC6; have hX6 := hX4.but hU46 (by omega); have hX6l := rb_lt hX6; have hs46 := hU46.size; have hT6 := Rb.but (rbD hF4) hC6 (show w4.heap.size ≠ X.b by omega); have hT7 := hT6.keep (bal w6 (.cells #[.int .i64 o, .int .i64 m, .string xs, .slice lo ln lc, .int .i64 o2, .int .i64 m2, .string xs2, .slice lo2 ln2 lc2] 43)); obtain ⟨u0, v0⟩ := txcell hT7 0 _ rfl; obtain ⟨u1, v1⟩ := txcell hT7 1 _ rfl; obtain ⟨u2, v2⟩ := txcell hT7 2 _ rfl; obtain ⟨u3, v3⟩ := txcell hT7 3 _ rfl; obtain ⟨u4, v4⟩ := txcell hT7 4 _ rfl))
  all_goals (rename_i hHeld; clear hHeld)
  have hR6 := hR4.but hU46 (by omega)
  have hU6 := hU4.trans hU46
  have hV6 : RdTn (fun k => w.heap.size < k ∧ k < w4.heap.size) w6 a (.int .i64 o) (.int .i64 m) (.string xs) (.slice lo ln lc) := RdTn.keep (Hi.but hU46 (fun k (hk : w.heap.size < k ∧ k < w4.heap.size) => by omega)) _ _ _ _ _ (RdTn.low (P' := fun k => w.heap.size < k ∧ k < w4.heap.size) (fun k hk (hg : w.heap.size < k ∧ k ≠ w2.heap.size) => ⟨hg.1, hk⟩) _ _ _ _ _ hV4)
  have hW6 : RdTn (fun k => w.heap.size < k ∧ k < w6.heap.size) w6 b (.int .i64 o2) (.int .i64 m2) (.string xs2) (.slice lo2 ln2 lc2) := RdTn.low (fun k hk (hg : _ ≤ k) => by have hz : w4.drew.heap.size = w4.heap.size := rfl; rw [hz] at hg; exact ⟨by omega, hk⟩) _ _ _ _ _ hY5
  have hz1 : (w6.alloc (.cells #[.int .i64 o, .int .i64 m, .string xs, .slice lo ln lc, .int .i64 o2, .int .i64 m2, .string xs2, .slice lo2 ln2 lc2] 43)).heap.size = w6.heap.size + 1 := World.size_alloc ..
  have hG7 := (rb_new w6 #[.int .i64 o, .int .i64 m, .string xs, .slice lo ln lc, .int .i64 o2, .int .i64 m2, .string xs2, .slice lo2 ln2 lc2] 43).keep (bal (w6.alloc (.cells #[.int .i64 o, .int .i64 m, .string xs, .slice lo ln lc, .int .i64 o2, .int .i64 m2, .string xs2, .slice lo2 ln2 lc2] 43)) (.cells #[.int .i64 15, .string emp, .int .i64 0, .slice (some ⟨w6.heap.size, 0, none⟩) 2 2, .slice none 0 0] 26))
  have hF7 := rb_new (w6.alloc (.cells #[.int .i64 o, .int .i64 m, .string xs, .slice lo ln lc, .int .i64 o2, .int .i64 m2, .string xs2, .slice lo2 ln2 lc2] 43)) #[.int .i64 15, .string emp, .int .i64 0, .slice (some ⟨w6.heap.size, 0, none⟩) 2 2, .slice none 0 0] 26
  rw [hz1] at hF7
  have hR7 := ((hR6).keep (bal w6 (.cells #[.int .i64 o, .int .i64 m, .string xs, .slice lo ln lc, .int .i64 o2, .int .i64 m2, .string xs2, .slice lo2 ln2 lc2] 43))).keep (bal (w6.alloc (.cells #[.int .i64 o, .int .i64 m, .string xs, .slice lo ln lc, .int .i64 o2, .int .i64 m2, .string xs2, .slice lo2 ln2 lc2] 43)) (.cells #[.int .i64 15, .string emp, .int .i64 0, .slice (some ⟨w6.heap.size, 0, none⟩) 2 2, .slice none 0 0] 26))
  have hU7 := (hU6.trans (Bux.of (bal w6 (.cells #[.int .i64 o, .int .i64 m, .string xs, .slice lo ln lc, .int .i64 o2, .int .i64 m2, .string xs2, .slice lo2 ln2 lc2] 43)))).trans (Bux.of (bal (w6.alloc (.cells #[.int .i64 o, .int .i64 m, .string xs, .slice lo ln lc, .int .i64 o2, .int .i64 m2, .string xs2, .slice lo2 ln2 lc2] 43)) (.cells #[.int .i64 15, .string emp, .int .i64 0, .slice (some ⟨w6.heap.size, 0, none⟩) 2 2, .slice none 0 0] 26)))
  have h7 := (h6.alloc (.cells #[.int .i64 o, .int .i64 m, .string xs, .slice lo ln lc, .int .i64 o2, .int .i64 m2, .string xs2, .slice lo2 ln2 lc2] 43)).alloc (.cells #[.int .i64 15, .string emp, .int .i64 0, .slice (some ⟨w6.heap.size, 0, none⟩) 2 2, .slice none 0 0] 26)
  have hV7 : RdTn (fun k => w.heap.size < k ∧ k ≠ w6.heap.size + 1) ((w6.alloc (.cells #[.int .i64 o, .int .i64 m, .string xs, .slice lo ln lc, .int .i64 o2, .int .i64 m2, .string xs2, .slice lo2 ln2 lc2] 43)).alloc (.cells #[.int .i64 15, .string emp, .int .i64 0, .slice (some ⟨w6.heap.size, 0, none⟩) 2 2, .slice none 0 0] 26)) a (.int .i64 o) (.int .i64 m) (.string xs) (.slice lo ln lc) := RdTn.keep (Hi.of (bal (w6.alloc (.cells #[.int .i64 o, .int .i64 m, .string xs, .slice lo ln lc, .int .i64 o2, .int .i64 m2, .string xs2, .slice lo2 ln2 lc2] 43)) (.cells #[.int .i64 15, .string emp, .int .i64 0, .slice (some ⟨w6.heap.size, 0, none⟩) 2 2, .slice none 0 0] 26))) _ _ _ _ _ (RdTn.keep (Hi.of (bal w6 (.cells #[.int .i64 o, .int .i64 m, .string xs, .slice lo ln lc, .int .i64 o2, .int .i64 m2, .string xs2, .slice lo2 ln2 lc2] 43))) _ _ _ _ _ (RdTn.low (fun k hk (hg : w.heap.size < k ∧ k < w4.heap.size) => ⟨hg.1, by omega⟩) _ _ _ _ _ hV6))
  have hW7 : RdTn (fun k => w.heap.size < k ∧ k ≠ w6.heap.size + 1) ((w6.alloc (.cells #[.int .i64 o, .int .i64 m, .string xs, .slice lo ln lc, .int .i64 o2, .int .i64 m2, .string xs2, .slice lo2 ln2 lc2] 43)).alloc (.cells #[.int .i64 15, .string emp, .int .i64 0, .slice (some ⟨w6.heap.size, 0, none⟩) 2 2, .slice none 0 0] 26)) b (.int .i64 o2) (.int .i64 m2) (.string xs2) (.slice lo2 ln2 lc2) := RdTn.keep (Hi.of (bal (w6.alloc (.cells #[.int .i64 o, .int .i64 m, .string xs, .slice lo ln lc, .int .i64 o2, .int .i64 m2, .string xs2, .slice lo2 ln2 lc2] 43)) (.cells #[.int .i64 15, .string emp, .int .i64 0, .slice (some ⟨w6.heap.size, 0, none⟩) 2 2, .slice none 0 0] 26))) _ _ _ _ _ (RdTn.keep (Hi.of (bal w6 (.cells #[.int .i64 o, .int .i64 m, .string xs, .slice lo ln lc, .int .i64 o2, .int .i64 m2, .string xs2, .slice lo2 ln2 lc2] 43))) _ _ _ _ _ (RdTn.low (fun k hk (hg : w.heap.size < k ∧ k < w6.heap.size) => ⟨hg.1, by omega⟩) _ _ _ _ _ hW6))
  have hb5 : w.heap.size < w6.heap.size + 1 ∧ X.W.heap.size ≤ w6.heap.size + 1 ∧ X.b < w6.heap.size + 1 := ⟨by omega, by omega, by omega⟩
  have hbs : w.heap.size < w6.heap.size ∧ w6.heap.size ≠ w6.heap.size + 1 := ⟨by omega, by omega⟩
  clear h6 hC6 hU46 hX6 hX6l hs46 hY5 hR6 hU6 hV6 hW6 hz1
  generalize ((w6.alloc (.cells #[.int .i64 o, .int .i64 m, .string xs, .slice lo ln lc, .int .i64 o2, .int .i64 m2, .string xs2, .slice lo2 ln2 lc2] 43)).alloc (.cells #[.int .i64 15, .string emp, .int .i64 0, .slice (some ⟨w6.heap.size, 0, none⟩) 2 2, .slice none 0 0] 26)) = w7 at h7 hU7 hR7 hF7 hG7 hV7 hW7 ⊢
  generalize w6.heap.size + 1 = g5 at hF7 hG7 hV7 hW7 hb5 hbs ⊢
  generalize w6.heap.size = gs at hF7 hG7 hV7 hW7 hb5 hbs ⊢
  rotate_left
  have hR6 := hR4.but hU46 (by omega)
  have hU6 := hU4.trans hU46
  have hV6 : RdTn (fun k => w.heap.size < k ∧ k < w4.heap.size) w6 a (.int .i64 o) (.int .i64 m) (.string xs) (.slice lo ln lc) := RdTn.keep (Hi.but hU46 (fun k (hk : w.heap.size < k ∧ k < w4.heap.size) => by omega)) _ _ _ _ _ (RdTn.low (P' := fun k => w.heap.size < k ∧ k < w4.heap.size) (fun k hk (hg : w.heap.size < k ∧ k ≠ w2.heap.size) => ⟨hg.1, hk⟩) _ _ _ _ _ hV4)
  have hW6 : RdTn (fun k => w.heap.size < k ∧ k < w6.heap.size) w6 b (.int .i64 o2) (.int .i64 m2) (.string xs2) (.slice lo2 ln2 lc2) := RdTn.low (fun k hk (hg : _ ≤ k) => by have hz : w4.drew.heap.size = w4.heap.size := rfl; rw [hz] at hg; exact ⟨by omega, hk⟩) _ _ _ _ _ hY5
  have hz1 : (w6.alloc (.cells #[.int .i64 15, .string emp, .int .i64 0, .slice (some ⟨w6.heap.size + 1, 0, none⟩) 2 2, .slice none 0 0] 26)).heap.size = w6.heap.size + 1 := World.size_alloc ..
  have hF7 := (rb_new w6 #[.int .i64 15, .string emp, .int .i64 0, .slice (some ⟨w6.heap.size + 1, 0, none⟩) 2 2, .slice none 0 0] 26).keep (bal (w6.alloc (.cells #[.int .i64 15, .string emp, .int .i64 0, .slice (some ⟨w6.heap.size + 1, 0, none⟩) 2 2, .slice none 0 0] 26)) (.cells #[.int .i64 o, .int .i64 m, .string xs, .slice lo ln lc, .int .i64 o2, .int .i64 m2, .string xs2, .slice lo2 ln2 lc2] 43))
  have hG7 := rb_new (w6.alloc (.cells #[.int .i64 15, .string emp, .int .i64 0, .slice (some ⟨w6.heap.size + 1, 0, none⟩) 2 2, .slice none 0 0] 26)) #[.int .i64 o, .int .i64 m, .string xs, .slice lo ln lc, .int .i64 o2, .int .i64 m2, .string xs2, .slice lo2 ln2 lc2] 43
  rw [hz1] at hG7
  have hR7 := ((hR6).keep (bal w6 (.cells #[.int .i64 15, .string emp, .int .i64 0, .slice (some ⟨w6.heap.size + 1, 0, none⟩) 2 2, .slice none 0 0] 26))).keep (bal (w6.alloc (.cells #[.int .i64 15, .string emp, .int .i64 0, .slice (some ⟨w6.heap.size + 1, 0, none⟩) 2 2, .slice none 0 0] 26)) (.cells #[.int .i64 o, .int .i64 m, .string xs, .slice lo ln lc, .int .i64 o2, .int .i64 m2, .string xs2, .slice lo2 ln2 lc2] 43))
  have hU7 := (hU6.trans (Bux.of (bal w6 (.cells #[.int .i64 15, .string emp, .int .i64 0, .slice (some ⟨w6.heap.size + 1, 0, none⟩) 2 2, .slice none 0 0] 26)))).trans (Bux.of (bal (w6.alloc (.cells #[.int .i64 15, .string emp, .int .i64 0, .slice (some ⟨w6.heap.size + 1, 0, none⟩) 2 2, .slice none 0 0] 26)) (.cells #[.int .i64 o, .int .i64 m, .string xs, .slice lo ln lc, .int .i64 o2, .int .i64 m2, .string xs2, .slice lo2 ln2 lc2] 43)))
  have h7 := (h6.alloc (.cells #[.int .i64 15, .string emp, .int .i64 0, .slice (some ⟨w6.heap.size + 1, 0, none⟩) 2 2, .slice none 0 0] 26)).alloc (.cells #[.int .i64 o, .int .i64 m, .string xs, .slice lo ln lc, .int .i64 o2, .int .i64 m2, .string xs2, .slice lo2 ln2 lc2] 43)
  have hV7 : RdTn (fun k => w.heap.size < k ∧ k ≠ w6.heap.size) ((w6.alloc (.cells #[.int .i64 15, .string emp, .int .i64 0, .slice (some ⟨w6.heap.size + 1, 0, none⟩) 2 2, .slice none 0 0] 26)).alloc (.cells #[.int .i64 o, .int .i64 m, .string xs, .slice lo ln lc, .int .i64 o2, .int .i64 m2, .string xs2, .slice lo2 ln2 lc2] 43)) a (.int .i64 o) (.int .i64 m) (.string xs) (.slice lo ln lc) := RdTn.keep (Hi.of (bal (w6.alloc (.cells #[.int .i64 15, .string emp, .int .i64 0, .slice (some ⟨w6.heap.size + 1, 0, none⟩) 2 2, .slice none 0 0] 26)) (.cells #[.int .i64 o, .int .i64 m, .string xs, .slice lo ln lc, .int .i64 o2, .int .i64 m2, .string xs2, .slice lo2 ln2 lc2] 43))) _ _ _ _ _ (RdTn.keep (Hi.of (bal w6 (.cells #[.int .i64 15, .string emp, .int .i64 0, .slice (some ⟨w6.heap.size + 1, 0, none⟩) 2 2, .slice none 0 0] 26))) _ _ _ _ _ (RdTn.low (fun k hk (hg : w.heap.size < k ∧ k < w4.heap.size) => ⟨hg.1, by omega⟩) _ _ _ _ _ hV6))
  have hW7 : RdTn (fun k => w.heap.size < k ∧ k ≠ w6.heap.size) ((w6.alloc (.cells #[.int .i64 15, .string emp, .int .i64 0, .slice (some ⟨w6.heap.size + 1, 0, none⟩) 2 2, .slice none 0 0] 26)).alloc (.cells #[.int .i64 o, .int .i64 m, .string xs, .slice lo ln lc, .int .i64 o2, .int .i64 m2, .string xs2, .slice lo2 ln2 lc2] 43)) b (.int .i64 o2) (.int .i64 m2) (.string xs2) (.slice lo2 ln2 lc2) := RdTn.keep (Hi.of (bal (w6.alloc (.cells #[.int .i64 15, .string emp, .int .i64 0, .slice (some ⟨w6.heap.size + 1, 0, none⟩) 2 2, .slice none 0 0] 26)) (.cells #[.int .i64 o, .int .i64 m, .string xs, .slice lo ln lc, .int .i64 o2, .int .i64 m2, .string xs2, .slice lo2 ln2 lc2] 43))) _ _ _ _ _ (RdTn.keep (Hi.of (bal w6 (.cells #[.int .i64 15, .string emp, .int .i64 0, .slice (some ⟨w6.heap.size + 1, 0, none⟩) 2 2, .slice none 0 0] 26))) _ _ _ _ _ (RdTn.low (fun k hk (hg : w.heap.size < k ∧ k < w6.heap.size) => ⟨hg.1, by omega⟩) _ _ _ _ _ hW6))
  have hb5 : w.heap.size < w6.heap.size ∧ X.W.heap.size ≤ w6.heap.size ∧ X.b < w6.heap.size := ⟨by omega, by omega, by omega⟩
  have hbs : w.heap.size < w6.heap.size + 1 ∧ w6.heap.size + 1 ≠ w6.heap.size := ⟨by omega, by omega⟩
  clear h6 hC6 hU46 hX6 hX6l hs46 hY5 hR6 hU6 hV6 hW6 hz1
  generalize ((w6.alloc (.cells #[.int .i64 15, .string emp, .int .i64 0, .slice (some ⟨w6.heap.size + 1, 0, none⟩) 2 2, .slice none 0 0] 26)).alloc (.cells #[.int .i64 o, .int .i64 m, .string xs, .slice lo ln lc, .int .i64 o2, .int .i64 m2, .string xs2, .slice lo2 ln2 lc2] 43)) = w7 at h7 hU7 hR7 hF7 hG7 hV7 hW7 ⊢
  generalize w6.heap.size + 1 = gs at hF7 hG7 hV7 hW7 hb5 hbs ⊢
  generalize w6.heap.size = g5 at hF7 hG7 hV7 hW7 hb5 hbs ⊢
  rotate_left
  have hz0 : (w4.alloc (.cells zF 26)).drew.heap.size = w4.heap.size + 1 := World.size_alloc ..
  have hs47 := hC6.size
  rw [hz0] at hs47
  have hR6 := hR4.but hU46 (by omega)
  have hU6 := hU4.trans hU46
  have hV6 : RdTn (fun k => w.heap.size < k ∧ k < w4.heap.size) w6 a (.int .i64 o) (.int .i64 m) (.string xs) (.slice lo ln lc) := RdTn.keep (Hi.but hU46 (fun k (hk : w.heap.size < k ∧ k < w4.heap.size) => by omega)) _ _ _ _ _ (RdTn.low (P' := fun k => w.heap.size < k ∧ k < w4.heap.size) (fun k hk (hg : w.heap.size < k ∧ k ≠ w2.heap.size) => ⟨hg.1, hk⟩) _ _ _ _ _ hV4)
  have hW6 : RdTn (fun k => w.heap.size < k ∧ k ≠ w4.heap.size) w6 b (.int .i64 o2) (.int .i64 m2) (.string xs2) (.slice lo2 ln2 lc2) := RdTn.low (fun k hk (hg : _ ≤ k) => by rw [hz0] at hg; exact ⟨by omega, by omega⟩) _ _ _ _ _ hY5
  have hG7 : Rb ((((((w6.alloc (.cells #[.int .i64 o, .int .i64 m, .string xs, .slice lo ln lc, .int .i64 o2, .int .i64 m2, .string xs2, .slice lo2 ln2 lc2] 43)).setCell ⟨w4.heap.size, 0, none⟩ (.int .i64 15)).setCell ⟨w4.heap.size, 1, none⟩ (.string emp)).setCell ⟨w4.heap.size, 2, none⟩ (.int .i64 0)).setCell ⟨w4.heap.size, 3, none⟩ (.slice (some ⟨w6.heap.size, 0, none⟩) 2 2)).setCell ⟨w4.heap.size, 4, none⟩ (.slice none 0 0)) w6.heap.size #[.int .i64 o, .int .i64 m, .string xs, .slice lo ln lc, .int .i64 o2, .int .i64 m2, .string xs2, .slice lo2 ln2 lc2] 43 := ((((((((((rb_new w6 #[.int .i64 o, .int .i64 m, .string xs, .slice lo ln lc, .int .i64 o2, .int .i64 m2, .string xs2, .slice lo2 ln2 lc2] 43).other (X := w4.heap.size) (by omega) 0 (.int .i64 15))).other (X := w4.heap.size) (by omega) 1 (.string emp))).other (X := w4.heap.size) (by omega) 2 (.int .i64 0))).other (X := w4.heap.size) (by omega) 3 (.slice (some ⟨w6.heap.size, 0, none⟩) 2 2))).other (X := w4.heap.size) (by omega) 4 (.slice none 0 0))
  have hF7 : Rb ((((((w6.alloc (.cells #[.int .i64 o, .int .i64 m, .string xs, .slice lo ln lc, .int .i64 o2, .int .i64 m2, .string xs2, .slice lo2 ln2 lc2] 43)).setCell ⟨w4.heap.size, 0, none⟩ (.int .i64 15)).setCell ⟨w4.heap.size, 1, none⟩ (.string emp)).setCell ⟨w4.heap.size, 2, none⟩ (.int .i64 0)).setCell ⟨w4.heap.size, 3, none⟩ (.slice (some ⟨w6.heap.size, 0, none⟩) 2 2)).setCell ⟨w4.heap.size, 4, none⟩ (.slice none 0 0)) w4.heap.size #[.int .i64 15, .string emp, .int .i64 0, .slice (some ⟨w6.heap.size, 0, none⟩) 2 2, .slice none 0 0] 26 := rb_five hT7 rfl (.int .i64 15) (.string emp) (.int .i64 0) (.slice (some ⟨w6.heap.size, 0, none⟩) 2 2) (.slice none 0 0)
  have hR7 : Rb ((((((w6.alloc (.cells #[.int .i64 o, .int .i64 m, .string xs, .slice lo ln lc, .int .i64 o2, .int .i64 m2, .string xs2, .slice lo2 ln2 lc2] 43)).setCell ⟨w4.heap.size, 0, none⟩ (.int .i64 15)).setCell ⟨w4.heap.size, 1, none⟩ (.string emp)).setCell ⟨w4.heap.size, 2, none⟩ (.int .i64 0)).setCell ⟨w4.heap.size, 3, none⟩ (.slice (some ⟨w6.heap.size, 0, none⟩) 2 2)).setCell ⟨w4.heap.size, 4, none⟩ (.slice none 0 0)) w.heap.size zF 26 := ((((((((((hR6.keep (bal w6 (.cells #[.int .i64 o, .int .i64 m, .string xs, .slice lo ln lc, .int .i64 o2, .int .i64 m2, .string xs2, .slice lo2 ln2 lc2] 43))).other (X := w4.heap.size) (by omega) 0 (.int .i64 15))).other (X := w4.heap.size) (by omega) 1 (.string emp))).other (X := w4.heap.size) (by omega) 2 (.int .i64 0))).other (X := w4.heap.size) (by omega) 3 (.slice (some ⟨w6.heap.size, 0, none⟩) 2 2))).other (X := w4.heap.size) (by omega) 4 (.slice none 0 0))
  have hU7 : Bux X.b w ((((((w6.alloc (.cells #[.int .i64 o, .int .i64 m, .string xs, .slice lo ln lc, .int .i64 o2, .int .i64 m2, .string xs2, .slice lo2 ln2 lc2] 43)).setCell ⟨w4.heap.size, 0, none⟩ (.int .i64 15)).setCell ⟨w4.heap.size, 1, none⟩ (.string emp)).setCell ⟨w4.heap.size, 2, none⟩ (.int .i64 0)).setCell ⟨w4.heap.size, 3, none⟩ (.slice (some ⟨w6.heap.size, 0, none⟩) 2 2)).setCell ⟨w4.heap.size, 4, none⟩ (.slice none 0 0)) := (hU6.trans (Bux.of (bal w6 (.cells #[.int .i64 o, .int .i64 m, .string xs, .slice lo ln lc, .int .i64 o2, .int .i64 m2, .string xs2, .slice lo2 ln2 lc2] 43)))).st5 (B := w4.heap.size) (by omega) (.int .i64 15) (.string emp) (.int .i64 0) (.slice (some ⟨w6.heap.size, 0, none⟩) 2 2) (.slice none 0 0)
  have h7 : Ds X ((((((w6.alloc (.cells #[.int .i64 o, .int .i64 m, .string xs, .slice lo ln lc, .int .i64 o2, .int .i64 m2, .string xs2, .slice lo2 ln2 lc2] 43)).setCell ⟨w4.heap.size, 0, none⟩ (.int .i64 15)).setCell ⟨w4.heap.size, 1, none⟩ (.string emp)).setCell ⟨w4.heap.size, 2, none⟩ (.int .i64 0)).setCell ⟨w4.heap.size, 3, none⟩ (.slice (some ⟨w6.heap.size, 0, none⟩) 2 2)).setCell ⟨w4.heap.size, 4, none⟩ (.slice none 0 0)) r3.pos := (h6.alloc (.cells #[.int .i64 o, .int .i64 m, .string xs, .slice lo ln lc, .int .i64 o2, .int .i64 m2, .string xs2, .slice lo2 ln2 lc2] 43)).st5 (B := w4.heap.size) (by omega) (by omega) (.int .i64 15) (.string emp) (.int .i64 0) (.slice (some ⟨w6.heap.size, 0, none⟩) 2 2) (.slice none 0 0)
  have hV7 : RdTn (fun k => w.heap.size < k ∧ k ≠ w4.heap.size) ((((((w6.alloc (.cells #[.int .i64 o, .int .i64 m, .string xs, .slice lo ln lc, .int .i64 o2, .int .i64 m2, .string xs2, .slice lo2 ln2 lc2] 43)).setCell ⟨w4.heap.size, 0, none⟩ (.int .i64 15)).setCell ⟨w4.heap.size, 1, none⟩ (.string emp)).setCell ⟨w4.heap.size, 2, none⟩ (.int .i64 0)).setCell ⟨w4.heap.size, 3, none⟩ (.slice (some ⟨w6.heap.size, 0, none⟩) 2 2)).setCell ⟨w4.heap.size, 4, none⟩ (.slice none 0 0)) a (.int .i64 o) (.int .i64 m) (.string xs) (.slice lo ln lc) := RdTn.keep (Hi.st5 (fun k (hk : w.heap.size < k ∧ k ≠ w4.heap.size) => hk.2) (w6.alloc (.cells #[.int .i64 o, .int .i64 m, .string xs, .slice lo ln lc, .int .i64 o2, .int .i64 m2, .string xs2, .slice lo2 ln2 lc2] 43)) (.int .i64 15) (.string emp) (.int .i64 0) (.slice (some ⟨w6.heap.size, 0, none⟩) 2 2) (.slice none 0 0)) _ _ _ _ _ (RdTn.keep (Hi.of (bal w6 (.cells #[.int .i64 o, .int .i64 m, .string xs, .slice lo ln lc, .int .i64 o2, .int .i64 m2, .string xs2, .slice lo2 ln2 lc2] 43))) _ _ _ _ _ (RdTn.low (fun k hk (hg : w.heap.size < k ∧ k < w4.heap.size) => ⟨hg.1, by omega⟩) _ _ _ _ _ hV6))
  have hW7 : RdTn (fun k => w.heap.size < k ∧ k ≠ w4.heap.size) ((((((w6.alloc (.cells #[.int .i64 o, .int .i64 m, .string xs, .slice lo ln lc, .int .i64 o2, .int .i64 m2, .string xs2, .slice lo2 ln2 lc2] 43)).setCell ⟨w4.heap.size, 0, none⟩ (.int .i64 15)).setCell ⟨w4.heap.size, 1, none⟩ (.string emp)).setCell ⟨w4.heap.size, 2, none⟩ (.int .i64 0)).setCell ⟨w4.heap.size, 3, none⟩ (.slice (some ⟨w6.heap.size, 0, none⟩) 2 2)).setCell ⟨w4.heap.size, 4, none⟩ (.slice none 0 0)) b (.int .i64 o2) (.int .i64 m2) (.string xs2) (.slice lo2 ln2 lc2) := RdTn.keep (Hi.st5 (fun k (hk : w.heap.size < k ∧ k ≠ w4.heap.size) => hk.2) (w6.alloc (.cells #[.int .i64 o, .int .i64 m, .string xs, .slice lo ln lc, .int .i64 o2, .int .i64 m2, .string xs2, .slice lo2 ln2 lc2] 43)) (.int .i64 15) (.string emp) (.int .i64 0) (.slice (some ⟨w6.heap.size, 0, none⟩) 2 2) (.slice none 0 0)) _ _ _ _ _ (RdTn.keep (Hi.of (bal w6 (.cells #[.int .i64 o, .int .i64 m, .string xs, .slice lo ln lc, .int .i64 o2, .int .i64 m2, .string xs2, .slice lo2 ln2 lc2] 43))) _ _ _ _ _ (hW6))
  have hb5 : w.heap.size < w4.heap.size ∧ X.W.heap.size ≤ w4.heap.size ∧ X.b < w4.heap.size := ⟨by omega, by omega, by omega⟩
  have hbs : w.heap.size < w6.heap.size ∧ w6.heap.size ≠ w4.heap.size := ⟨by omega, by omega⟩
  clear h6 hC6 hU46 hX6 hX6l hs46 hY5 hR6 hU6 hV6 hW6 hz0 hs47 hT6 hT7 u0 u1 u2 u3 u4 v0 v1 v2 v3 v4
  generalize ((((((w6.alloc (.cells #[.int .i64 o, .int .i64 m, .string xs, .slice lo ln lc, .int .i64 o2, .int .i64 m2, .string xs2, .slice lo2 ln2 lc2] 43)).setCell ⟨w4.heap.size, 0, none⟩ (.int .i64 15)).setCell ⟨w4.heap.size, 1, none⟩ (.string emp)).setCell ⟨w4.heap.size, 2, none⟩ (.int .i64 0)).setCell ⟨w4.heap.size, 3, none⟩ (.slice (some ⟨w6.heap.size, 0, none⟩) 2 2)).setCell ⟨w4.heap.size, 4, none⟩ (.slice none 0 0)) = w7 at h7 hU7 hR7 hF7 hG7 hV7 hW7 ⊢
  generalize w6.heap.size = gs at hF7 hG7 hV7 hW7 hb5 hbs ⊢
  generalize w4.heap.size = g5 at hF7 hG7 hV7 hW7 hb5 hbs ⊢
  rotate_left
  all_goals
    clear K0 hF4 h4 hX4 hR4 hU4 hV4 hDr hX4l hb4 T1 BC T3 hV2 h2 hC2 hR2 hU2 hX2 h3 hB3 hR3 hU3 hX3 hV3 h1 hR1 hB1 HQ
    go_wp2_with (first
      | (go_at_call 69; refine (dpast_at (x := kMod) h7 HN.out).mono ?_; rintro e w8 ⟨rfl, h8, hC8⟩; have hR8 := hR7.but hC8 (by omega); have hU8 := hU7.trans hC8; have hF8 := hF7.but hC8 (by omega); have hG8 := hG7.but hC8 (by omega); have hV8 := RdTn.keep (Hi.but hC8 (fun k hk => by omega)) _ _ _ _ _ hV7; have hW8 := RdTn.keep (Hi.but hC8 (fun k hk => by omega)) _ _ _ _ _ hW7; clear h7 hR7 hU7 hF7 hG7 hV7 hW7 hC8))
    refine (dkd_yes (k := 1) h8 HK.out).mono ?_
    rintro e w9 ⟨rfl, hB9⟩
    have h9 := h8.keep hB9
    have hR9 := hR8.keep hB9
    have hU9 := hU8.trans (Bux.of hB9)
    have hF9 := hF8.keep hB9
    have hG9 := hG8.keep hB9
    have hV9 := RdTn.keep (Hi.of hB9) _ _ _ _ _ hV8
    have hW9 := RdTn.keep (Hi.of hB9) _ _ _ _ _ hW8
    clear h8 hR8 hU8 hF8 hG8 hV8 hW8 hB9
    have hlen := h9.words.len
    have hltq := HD.out.lt
    have hcap := h9.words.rd.lecap
    have hcx := h9.words.rd.lemax
    have hltn : q < X.n := by omega
    have hsm9 := h9.small
    obtain ⟨y, g, off, hy, hao, hg, c0, c1, c2, -⟩ := h9.words.get h9.below hltn
    obtain ⟨T0, -⟩ := txcell h9.at'.2 0 _ rfl
    obtain ⟨T1, F1⟩ := txcell h9.at'.2 1 _ rfl
    rw [hao] at T0
    have hyn := num_of hy HD.out
    rw [hyn] at c2
    obtain ⟨m2', q2⟩ := txcell hF9 2 _ rfl
    clear c0 c1 hy hyn hao
    have c2' : w9.cell? ⟨g, off + q * 5 + 2, none⟩ = some (.int .i64 (n : Nat)) := c2
    clear c2
    have hlk := h9.below.size
    have hX9l := rb_lt hR9
    go_wp2_with (fail)
    go_region
    have h10 : Ds X (w9.setCell ⟨g5, 2, none⟩ (.int .i64 (n : Nat))).drew (.at q) := (h9.other (B := g5) (by omega) (by omega) 2 (.int .i64 (n : Nat))).drew
    have hR10 : Rb (w9.setCell ⟨g5, 2, none⟩ (.int .i64 (n : Nat))).drew w.heap.size zF 26 := rbD (hR9.other (X := g5) (by omega) 2 (.int .i64 (n : Nat)))
    have hU10 : Bux X.b w (w9.setCell ⟨g5, 2, none⟩ (.int .i64 (n : Nat))).drew := buxD (but_new (B := g5) hU9 (by omega) 2 (.int .i64 (n : Nat)))
    have hF10 : Rb (w9.setCell ⟨g5, 2, none⟩ (.int .i64 (n : Nat))).drew g5 #[.int .i64 15, .string emp, (.int .i64 (n : Nat)), .slice (some ⟨gs, 0, none⟩) 2 2, .slice none 0 0] 26 := rbD (tx_set hF9 2 (.int .i64 (n : Nat)))
    have hG10 := rbD (hG9.other (X := g5) hbs.2 2 (.int .i64 (n : Nat)))
    have hV10 := RdTn.keep (W' := (w9.setCell ⟨g5, 2, none⟩ (.int .i64 (n : Nat))).drew) (Hi.of (Below.refl _ (w9.setCell ⟨g5, 2, none⟩ (.int .i64 (n : Nat)))).drew) _ _ _ _ _ (RdTn.keep ((Hi.refl _ w9).set (g := g5) (fun k (hk : w.heap.size < k ∧ k ≠ g5) => hk.2) 2 (.int .i64 (n : Nat))) _ _ _ _ _ hV9)
    have hW10 := RdTn.keep (W' := (w9.setCell ⟨g5, 2, none⟩ (.int .i64 (n : Nat))).drew) (Hi.of (Below.refl _ (w9.setCell ⟨g5, 2, none⟩ (.int .i64 (n : Nat)))).drew) _ _ _ _ _ (RdTn.keep ((Hi.refl _ w9).set (g := g5) (fun k (hk : w.heap.size < k ∧ k ≠ g5) => hk.2) 2 (.int .i64 (n : Nat))) _ _ _ _ _ hW9)
    generalize (w9.setCell ⟨g5, 2, none⟩ (.int .i64 (n : Nat))).drew = w10 at h10 hR10 hU10 hF10 hG10 hV10 hW10 ⊢
    clear T0 T1 F1 m2' q2 c2' h9 hR9 hU9 hF9 hG9 hV9 hW9 hlk hX9l hcap hcx hg
    obtain ⟨M2, -⟩ := txcell hF10 2 _ rfl
    obtain ⟨t1, f1⟩ := txcell h10.at'.2 1 _ rfl
    obtain ⟨h12, hC12⟩ := h10.next hltq
    have hU12 := hU10.trans hC12
    have hR12 := hR10.but hC12 (by omega)
    have hF12 := hF10.but hC12 (by omega)
    obtain ⟨f0, -⟩ := txcell hF12 0 _ rfl
    obtain ⟨f9, -⟩ := txcell hF12 1 _ rfl
    obtain ⟨f2, -⟩ := txcell hF12 2 _ rfl
    obtain ⟨f3, -⟩ := txcell hF12 3 _ rfl
    obtain ⟨f4, -⟩ := txcell hF12 4 _ rfl
    obtain ⟨r0, g0⟩ := txcell hR12 0 _ rfl
    obtain ⟨r1', g1⟩ := txcell hR12 1 _ rfl
    obtain ⟨r2, g2⟩ := txcell hR12 2 _ rfl
    obtain ⟨r3', g3⟩ := txcell hR12 3 _ rfl
    obtain ⟨r4, g4⟩ := txcell hR12 4 _ rfl
    go_wp2
    have hG12 := hG10.but hC12 (by omega)
    have hV12 := RdTn.keep (Hi.but hC12 (fun k (hk : w.heap.size < k ∧ k ≠ g5) => by omega)) _ _ _ _ _ hV10
    have hW12 := RdTn.keep (Hi.but hC12 (fun k (hk : w.heap.size < k ∧ k ≠ g5) => by omega)) _ _ _ _ _ hW10
    generalize w10.setCell ⟨X.b, 1, none⟩ (.int .i64 ((q : Int) + 1)) = w12 at h12 hU12 hR12 hF12 hG12 hV12 hW12 ⊢
    have hz7 : RdFn (fun k => w.heap.size < k ∧ k ≠ g5) w12 (.mk 15 emp (n : Nat) [a, b] []) (.int .i64 15) (.string emp) (.int .i64 (n : Nat)) (.slice (some ⟨gs, 0, none⟩) 2 2) (.slice none 0 0) := mkA2 (P := fun k => w.heap.size < k ∧ k ≠ g5) hV12 hW12 hG12 hbs 15 (n : Nat) emp ⟨by decide, ⟨by omega, by omega⟩, sz_emp⟩
    have hz8 := RdFn.keep (Hi.st5 (P := fun k => w.heap.size < k ∧ k ≠ g5) (B := w.heap.size) (fun k (hk : w.heap.size < k ∧ k ≠ g5) => by omega) w12 (.int .i64 15) (.string emp) (.int .i64 (n : Nat)) (.slice (some ⟨gs, 0, none⟩) 2 2) (.slice none 0 0)) _ _ _ _ _ _ hz7
    have hz9 := RdFn.low (P' := Ge w.heap.size) (fun k _ (hk : w.heap.size < k ∧ k ≠ g5) => Nat.le_of_lt hk.1) _ _ _ _ _ _ hz8
    have hRy := rb_five hR12 rfl (.int .i64 15) (.string emp) (.int .i64 (n : Nat)) (.slice (some ⟨gs, 0, none⟩) 2 2) (.slice none 0 0)
    obtain ⟨k0, -⟩ := txcell hRy 0 _ rfl
    obtain ⟨k1, -⟩ := txcell hRy 1 _ rfl
    obtain ⟨k2, -⟩ := txcell hRy 2 _ rfl
    obtain ⟨k3, -⟩ := txcell hRy 3 _ rfl
    obtain ⟨k4, -⟩ := txcell hRy 4 _ rfl
    have hE9 := h12.st5 (B := w.heap.size) (by omega) hWw (.int .i64 15) (.string emp) (.int .i64 (n : Nat)) (.slice (some ⟨gs, 0, none⟩) 2 2) (.slice none 0 0)
    have hUE9 := hU12.st5 (Nat.le_refl _) (.int .i64 15) (.string emp) (.int .i64 (n : Nat)) (.slice (some ⟨gs, 0, none⟩) 2 2) (.slice none 0 0)
    rw [← HP.out] at hE9
    have hi9 := HI.out a b ha hb
    exact bodyPost_ret (v := .agg #[.int .i64 15, .string emp, .int .i64 (n : Nat), .slice (some ⟨gs, 0, none⟩) 2 2, .slice none 0 0]) (by simp [results, Tryz.results70, go_sem, k0, k1, k2, k3, k4]) rfl ⟨15, emp, (n : Nat), some ⟨gs, 0, none⟩, 2, 2, none, 0, 0, _, rfl, hz9, hE9, hUE9, hi9⟩
set_option maxRecDepth 100000 in
set_option maxHeartbeats 8000000 in
theorem datom_zero {X : Rx} {w : World} {P : Pos} {p : Nat} {r : Out Fm} {r1 r3 : Out Tm} {q : Nat} (h : Ds X w P) (S1 : ∀ w5, Ds X w5 P → Calls Tryz.prog 25 #[.pointer (some ⟨X.b, 0, none⟩)] w5 (DTm X w5 r1)) (S3 : ∀ w5, Ds X w5 (.at (p + 1)) → Calls Tryz.prog 25 #[.pointer (some ⟨X.b, 0, none⟩)] w5 (DTm X w5 r3)) (hq : r1.pos = .at p) (hlt : p < X.ws.length) (HBC : ∀ w3, Ds X w3 (.at p) → Calls Tryz.prog 93 #[.pointer (some ⟨X.b, 0, none⟩)] w3 fun e w' => e = .returned (.int .i64 15) ∧ Ds X w' (.at p) ∧ Below w3.heap.size w3 w')
    (hn : r3.pos.need X.ws kMod (.at q)) (hd : IsD X.ws q 0) (hp : r.pos = .bad 92 q) (hi : ∀ f, r.is f) : Calls Tryz.prog 70 #[.pointer (some ⟨X.b, 0, none⟩)] w (DFm X w r) := by
  have hbw := h.lt
  have hWw := h.below.size
  have hR1 := rb_new w zF 26
  have h1 := h.alloc (.cells zF 26)
  have hB1 : Bux X.b w (w.alloc (.cells zF 26)) := Bux.of (bal w _)
  have T1 := mkHid (S1 _ h1)
  have BC := mkHid HBC
  have T3 := mkHid S3
  have HQ := mkHid hq
  have HP := mkHid hp
  have HI := mkHid hi
  have HN := mkHid hn
  have HD := mkHid hd
  have HK : Hid ((Pos.at q).kinds X.ws 1) := kinds_of hd
  clear hp hi hn hd
  clear S1 S3 hq HBC
  go_enter Tryz.func70, Tryz.ntmps70
  go_wp2_with (first
    | (go_at_call 25; refine (T1.out).mono ?_; rintro e w2 ⟨o, m, xs, lo, ln, lc, a, rfl, hV2, h2, hC2, ha⟩; rw [HQ.out] at h2; have hR2 := (hR1.but hC2 (by omega)).keep (bal w2 (.cells #[.int .i64 o, .int .i64 m, .string xs, .slice lo ln lc] 43)); have hU2 := (hB1.trans hC2).trans (Bux.of (bal w2 (.cells #[.int .i64 o, .int .i64 m, .string xs, .slice lo ln lc] 43))); have hX2 := rb_new w2 #[.int .i64 o, .int .i64 m, .string xs, .slice lo ln lc] 43; have hs2 : w.heap.size < w2.heap.size := (Array.getElem?_eq_some_iff.1 (hR1.but hC2 (by omega))).1; have hb2 := h2.lt)
    | (go_at_call 93; refine (BC.out _ (h2.alloc _)).mono ?_; rintro e w3 ⟨rfl, h3, hB3⟩; have hR3 := hR2.keep hB3; have hU3 := hU2.trans (Bux.of hB3); have hX3 := hX2.keep hB3; have hV3 : RdTn (fun k => w.heap.size < k ∧ k ≠ w2.heap.size) w3 a (.int .i64 o) (.int .i64 m) (.string xs) (.slice lo ln lc) := RdTn.keep (Hi.of hB3) _ _ _ _ _ (RdTn.keep (Hi.of (bal w2 _)) _ _ _ _ _ (RdTn.low (P' := fun k => w.heap.size < k ∧ k ≠ w2.heap.size) (fun k hk (hg : _ ≤ k) => ⟨by simp only [World.size_alloc] at hg; omega, by omega⟩) _ _ _ _ _ hV2)); obtain ⟨t1, f1⟩ := txcell h3.at'.2 1 _ rfl; have hsm := h3.small))
  obtain ⟨h4, hC4⟩ := h3.next hlt
  clear t1 f1
  have hX4 := hX3.but hC4 (by omega)
  have hR4 := hR3.but hC4 (by omega)
  have hU4 := hU3.trans hC4
  have hV4 := RdTn.keep (Hi.but hC4 (fun k hk => by omega)) _ _ _ _ _ hV3
  clear hC4
  generalize w3.setCell ⟨X.b, 1, none⟩ (.int .i64 ((p : Int) + 1)) = w4 at h4 hX4 hR4 hU4 hV4 ⊢
  obtain ⟨x0, -⟩ := txcell hX4 0 _ rfl
  obtain ⟨x1, -⟩ := txcell hX4 1 _ rfl
  obtain ⟨x2, -⟩ := txcell hX4 2 _ rfl
  obtain ⟨x3, -⟩ := txcell hX4 3 _ rfl
  have hX4l := (Array.getElem?_eq_some_iff.1 hX4).1
  have hb4 := h4.lt
  have hDr : Bux X.b w4 w4 := Bux.refl _ _
  have hF4 := rb_new w4 zF 26
  have K0 : Hid (∀ w', Rb w' w2.heap.size #[.int .i64 o, .int .i64 m, .string xs, .slice lo ln lc] 43 → w'.cell? ⟨w2.heap.size, 0, none⟩ = some (.int .i64 o) ∧ w'.cell? ⟨w2.heap.size, 1, none⟩ = some (.int .i64 m) ∧ w'.cell? ⟨w2.heap.size, 2, none⟩ = some (.string xs) ∧ w'.cell? ⟨w2.heap.size, 3, none⟩ = some (.slice lo ln lc)) := fun w' hX => ⟨(txcell hX 0 _ rfl).1, (txcell hX 1 _ rfl).1, (txcell hX 2 _ rfl).1, (txcell hX 3 _ rfl).1⟩
  clear x0 x1 x2 x3
  go_region_held3 (fun w' => w'.cell? ⟨w2.heap.size, 0, none⟩ = some (.int .i64 o) ∧ w'.cell? ⟨w2.heap.size, 1, none⟩ = some (.int .i64 m) ∧ w'.cell? ⟨w2.heap.size, 2, none⟩ = some (.string xs) ∧ w'.cell? ⟨w2.heap.size, 3, none⟩ = some (.slice lo ln lc))
    ((refine K0.out _ ?_; with_reducible (repeat (first | exact hX4 | exact hX6 | refine rbA ?_ _ | refine rbD ?_ | refine Rb.other ?_ (by omega) _ _))))
    (first
      | (go_at_call 25; refine (T3.out _ ?_).mono ?_; (with_reducible exact h4.drew); rintro e w6 ⟨o2, m2, xs2, lo2, ln2, lc2, b, rfl, hY5, h6, hC6, hb⟩; have hU46 : Bux X.b w4 w6 := (buxD hDr).trans hC6; have hX6 := hX4.but hU46 (by omega); have hX6l := rb_lt hX6; have hs46 := hU46.size)
      | (go_at_call 25; refine (T3.out _ ?_).mono ?_; (with_reducible exact (h4.alloc _).drew); rintro e w6 ⟨o2, m2, xs2, lo2, ln2, lc2, b, rfl, hY5, h6, hC6, hb⟩; have hU46 : Bux X.b w4 w6 := (buxD (buxA hDr _)).trans hC6; have hX6 := hX4.but hU46 (by omega); have hX6l := rb_lt hX6; have hs46 := hU46.size; have hT6 := Rb.but (rbD hF4) hC6 (show w4.heap.size ≠ X.b by omega); have hT7 := hT6.keep (bal w6 (.cells #[.int .i64 o, .int .i64 m, .string xs, .slice lo ln lc, .int .i64 o2, .int .i64 m2, .string xs2, .slice lo2 ln2 lc2] 43)); obtain ⟨u0, v0⟩ := txcell hT7 0 _ rfl; obtain ⟨u1, v1⟩ := txcell hT7 1 _ rfl; obtain ⟨u2, v2⟩ := txcell hT7 2 _ rfl; obtain ⟨u3, v3⟩ := txcell hT7 3 _ rfl; obtain ⟨u4, v4⟩ := txcell hT7 4 _ rfl))
  all_goals (rename_i hHeld; clear hHeld)
  have hR6 := hR4.but hU46 (by omega)
  have hU6 := hU4.trans hU46
  have hV6 : RdTn (fun k => w.heap.size < k ∧ k < w4.heap.size) w6 a (.int .i64 o) (.int .i64 m) (.string xs) (.slice lo ln lc) := RdTn.keep (Hi.but hU46 (fun k (hk : w.heap.size < k ∧ k < w4.heap.size) => by omega)) _ _ _ _ _ (RdTn.low (P' := fun k => w.heap.size < k ∧ k < w4.heap.size) (fun k hk (hg : w.heap.size < k ∧ k ≠ w2.heap.size) => ⟨hg.1, hk⟩) _ _ _ _ _ hV4)
  have hW6 : RdTn (fun k => w.heap.size < k ∧ k < w6.heap.size) w6 b (.int .i64 o2) (.int .i64 m2) (.string xs2) (.slice lo2 ln2 lc2) := RdTn.low (fun k hk (hg : _ ≤ k) => by have hz : w4.drew.heap.size = w4.heap.size := rfl; rw [hz] at hg; exact ⟨by omega, hk⟩) _ _ _ _ _ hY5
  have hz1 : (w6.alloc (.cells #[.int .i64 o, .int .i64 m, .string xs, .slice lo ln lc, .int .i64 o2, .int .i64 m2, .string xs2, .slice lo2 ln2 lc2] 43)).heap.size = w6.heap.size + 1 := World.size_alloc ..
  have hG7 := (rb_new w6 #[.int .i64 o, .int .i64 m, .string xs, .slice lo ln lc, .int .i64 o2, .int .i64 m2, .string xs2, .slice lo2 ln2 lc2] 43).keep (bal (w6.alloc (.cells #[.int .i64 o, .int .i64 m, .string xs, .slice lo ln lc, .int .i64 o2, .int .i64 m2, .string xs2, .slice lo2 ln2 lc2] 43)) (.cells #[.int .i64 15, .string emp, .int .i64 0, .slice (some ⟨w6.heap.size, 0, none⟩) 2 2, .slice none 0 0] 26))
  have hF7 := rb_new (w6.alloc (.cells #[.int .i64 o, .int .i64 m, .string xs, .slice lo ln lc, .int .i64 o2, .int .i64 m2, .string xs2, .slice lo2 ln2 lc2] 43)) #[.int .i64 15, .string emp, .int .i64 0, .slice (some ⟨w6.heap.size, 0, none⟩) 2 2, .slice none 0 0] 26
  rw [hz1] at hF7
  have hR7 := ((hR6).keep (bal w6 (.cells #[.int .i64 o, .int .i64 m, .string xs, .slice lo ln lc, .int .i64 o2, .int .i64 m2, .string xs2, .slice lo2 ln2 lc2] 43))).keep (bal (w6.alloc (.cells #[.int .i64 o, .int .i64 m, .string xs, .slice lo ln lc, .int .i64 o2, .int .i64 m2, .string xs2, .slice lo2 ln2 lc2] 43)) (.cells #[.int .i64 15, .string emp, .int .i64 0, .slice (some ⟨w6.heap.size, 0, none⟩) 2 2, .slice none 0 0] 26))
  have hU7 := (hU6.trans (Bux.of (bal w6 (.cells #[.int .i64 o, .int .i64 m, .string xs, .slice lo ln lc, .int .i64 o2, .int .i64 m2, .string xs2, .slice lo2 ln2 lc2] 43)))).trans (Bux.of (bal (w6.alloc (.cells #[.int .i64 o, .int .i64 m, .string xs, .slice lo ln lc, .int .i64 o2, .int .i64 m2, .string xs2, .slice lo2 ln2 lc2] 43)) (.cells #[.int .i64 15, .string emp, .int .i64 0, .slice (some ⟨w6.heap.size, 0, none⟩) 2 2, .slice none 0 0] 26)))
  have h7 := (h6.alloc (.cells #[.int .i64 o, .int .i64 m, .string xs, .slice lo ln lc, .int .i64 o2, .int .i64 m2, .string xs2, .slice lo2 ln2 lc2] 43)).alloc (.cells #[.int .i64 15, .string emp, .int .i64 0, .slice (some ⟨w6.heap.size, 0, none⟩) 2 2, .slice none 0 0] 26)
  have hV7 : RdTn (fun k => w.heap.size < k ∧ k ≠ w6.heap.size + 1) ((w6.alloc (.cells #[.int .i64 o, .int .i64 m, .string xs, .slice lo ln lc, .int .i64 o2, .int .i64 m2, .string xs2, .slice lo2 ln2 lc2] 43)).alloc (.cells #[.int .i64 15, .string emp, .int .i64 0, .slice (some ⟨w6.heap.size, 0, none⟩) 2 2, .slice none 0 0] 26)) a (.int .i64 o) (.int .i64 m) (.string xs) (.slice lo ln lc) := RdTn.keep (Hi.of (bal (w6.alloc (.cells #[.int .i64 o, .int .i64 m, .string xs, .slice lo ln lc, .int .i64 o2, .int .i64 m2, .string xs2, .slice lo2 ln2 lc2] 43)) (.cells #[.int .i64 15, .string emp, .int .i64 0, .slice (some ⟨w6.heap.size, 0, none⟩) 2 2, .slice none 0 0] 26))) _ _ _ _ _ (RdTn.keep (Hi.of (bal w6 (.cells #[.int .i64 o, .int .i64 m, .string xs, .slice lo ln lc, .int .i64 o2, .int .i64 m2, .string xs2, .slice lo2 ln2 lc2] 43))) _ _ _ _ _ (RdTn.low (fun k hk (hg : w.heap.size < k ∧ k < w4.heap.size) => ⟨hg.1, by omega⟩) _ _ _ _ _ hV6))
  have hW7 : RdTn (fun k => w.heap.size < k ∧ k ≠ w6.heap.size + 1) ((w6.alloc (.cells #[.int .i64 o, .int .i64 m, .string xs, .slice lo ln lc, .int .i64 o2, .int .i64 m2, .string xs2, .slice lo2 ln2 lc2] 43)).alloc (.cells #[.int .i64 15, .string emp, .int .i64 0, .slice (some ⟨w6.heap.size, 0, none⟩) 2 2, .slice none 0 0] 26)) b (.int .i64 o2) (.int .i64 m2) (.string xs2) (.slice lo2 ln2 lc2) := RdTn.keep (Hi.of (bal (w6.alloc (.cells #[.int .i64 o, .int .i64 m, .string xs, .slice lo ln lc, .int .i64 o2, .int .i64 m2, .string xs2, .slice lo2 ln2 lc2] 43)) (.cells #[.int .i64 15, .string emp, .int .i64 0, .slice (some ⟨w6.heap.size, 0, none⟩) 2 2, .slice none 0 0] 26))) _ _ _ _ _ (RdTn.keep (Hi.of (bal w6 (.cells #[.int .i64 o, .int .i64 m, .string xs, .slice lo ln lc, .int .i64 o2, .int .i64 m2, .string xs2, .slice lo2 ln2 lc2] 43))) _ _ _ _ _ (RdTn.low (fun k hk (hg : w.heap.size < k ∧ k < w6.heap.size) => ⟨hg.1, by omega⟩) _ _ _ _ _ hW6))
  have hb5 : w.heap.size < w6.heap.size + 1 ∧ X.W.heap.size ≤ w6.heap.size + 1 ∧ X.b < w6.heap.size + 1 := ⟨by omega, by omega, by omega⟩
  have hbs : w.heap.size < w6.heap.size ∧ w6.heap.size ≠ w6.heap.size + 1 := ⟨by omega, by omega⟩
  clear h6 hC6 hU46 hX6 hX6l hs46 hY5 hR6 hU6 hV6 hW6 hz1
  generalize ((w6.alloc (.cells #[.int .i64 o, .int .i64 m, .string xs, .slice lo ln lc, .int .i64 o2, .int .i64 m2, .string xs2, .slice lo2 ln2 lc2] 43)).alloc (.cells #[.int .i64 15, .string emp, .int .i64 0, .slice (some ⟨w6.heap.size, 0, none⟩) 2 2, .slice none 0 0] 26)) = w7 at h7 hU7 hR7 hF7 hG7 hV7 hW7 ⊢
  generalize w6.heap.size + 1 = g5 at hF7 hG7 hV7 hW7 hb5 hbs ⊢
  generalize w6.heap.size = gs at hF7 hG7 hV7 hW7 hb5 hbs ⊢
  rotate_left
  have hR6 := hR4.but hU46 (by omega)
  have hU6 := hU4.trans hU46
  have hV6 : RdTn (fun k => w.heap.size < k ∧ k < w4.heap.size) w6 a (.int .i64 o) (.int .i64 m) (.string xs) (.slice lo ln lc) := RdTn.keep (Hi.but hU46 (fun k (hk : w.heap.size < k ∧ k < w4.heap.size) => by omega)) _ _ _ _ _ (RdTn.low (P' := fun k => w.heap.size < k ∧ k < w4.heap.size) (fun k hk (hg : w.heap.size < k ∧ k ≠ w2.heap.size) => ⟨hg.1, hk⟩) _ _ _ _ _ hV4)
  have hW6 : RdTn (fun k => w.heap.size < k ∧ k < w6.heap.size) w6 b (.int .i64 o2) (.int .i64 m2) (.string xs2) (.slice lo2 ln2 lc2) := RdTn.low (fun k hk (hg : _ ≤ k) => by have hz : w4.drew.heap.size = w4.heap.size := rfl; rw [hz] at hg; exact ⟨by omega, hk⟩) _ _ _ _ _ hY5
  have hz1 : (w6.alloc (.cells #[.int .i64 15, .string emp, .int .i64 0, .slice (some ⟨w6.heap.size + 1, 0, none⟩) 2 2, .slice none 0 0] 26)).heap.size = w6.heap.size + 1 := World.size_alloc ..
  have hF7 := (rb_new w6 #[.int .i64 15, .string emp, .int .i64 0, .slice (some ⟨w6.heap.size + 1, 0, none⟩) 2 2, .slice none 0 0] 26).keep (bal (w6.alloc (.cells #[.int .i64 15, .string emp, .int .i64 0, .slice (some ⟨w6.heap.size + 1, 0, none⟩) 2 2, .slice none 0 0] 26)) (.cells #[.int .i64 o, .int .i64 m, .string xs, .slice lo ln lc, .int .i64 o2, .int .i64 m2, .string xs2, .slice lo2 ln2 lc2] 43))
  have hG7 := rb_new (w6.alloc (.cells #[.int .i64 15, .string emp, .int .i64 0, .slice (some ⟨w6.heap.size + 1, 0, none⟩) 2 2, .slice none 0 0] 26)) #[.int .i64 o, .int .i64 m, .string xs, .slice lo ln lc, .int .i64 o2, .int .i64 m2, .string xs2, .slice lo2 ln2 lc2] 43
  rw [hz1] at hG7
  have hR7 := ((hR6).keep (bal w6 (.cells #[.int .i64 15, .string emp, .int .i64 0, .slice (some ⟨w6.heap.size + 1, 0, none⟩) 2 2, .slice none 0 0] 26))).keep (bal (w6.alloc (.cells #[.int .i64 15, .string emp, .int .i64 0, .slice (some ⟨w6.heap.size + 1, 0, none⟩) 2 2, .slice none 0 0] 26)) (.cells #[.int .i64 o, .int .i64 m, .string xs, .slice lo ln lc, .int .i64 o2, .int .i64 m2, .string xs2, .slice lo2 ln2 lc2] 43))
  have hU7 := (hU6.trans (Bux.of (bal w6 (.cells #[.int .i64 15, .string emp, .int .i64 0, .slice (some ⟨w6.heap.size + 1, 0, none⟩) 2 2, .slice none 0 0] 26)))).trans (Bux.of (bal (w6.alloc (.cells #[.int .i64 15, .string emp, .int .i64 0, .slice (some ⟨w6.heap.size + 1, 0, none⟩) 2 2, .slice none 0 0] 26)) (.cells #[.int .i64 o, .int .i64 m, .string xs, .slice lo ln lc, .int .i64 o2, .int .i64 m2, .string xs2, .slice lo2 ln2 lc2] 43)))
  have h7 := (h6.alloc (.cells #[.int .i64 15, .string emp, .int .i64 0, .slice (some ⟨w6.heap.size + 1, 0, none⟩) 2 2, .slice none 0 0] 26)).alloc (.cells #[.int .i64 o, .int .i64 m, .string xs, .slice lo ln lc, .int .i64 o2, .int .i64 m2, .string xs2, .slice lo2 ln2 lc2] 43)
  have hV7 : RdTn (fun k => w.heap.size < k ∧ k ≠ w6.heap.size) ((w6.alloc (.cells #[.int .i64 15, .string emp, .int .i64 0, .slice (some ⟨w6.heap.size + 1, 0, none⟩) 2 2, .slice none 0 0] 26)).alloc (.cells #[.int .i64 o, .int .i64 m, .string xs, .slice lo ln lc, .int .i64 o2, .int .i64 m2, .string xs2, .slice lo2 ln2 lc2] 43)) a (.int .i64 o) (.int .i64 m) (.string xs) (.slice lo ln lc) := RdTn.keep (Hi.of (bal (w6.alloc (.cells #[.int .i64 15, .string emp, .int .i64 0, .slice (some ⟨w6.heap.size + 1, 0, none⟩) 2 2, .slice none 0 0] 26)) (.cells #[.int .i64 o, .int .i64 m, .string xs, .slice lo ln lc, .int .i64 o2, .int .i64 m2, .string xs2, .slice lo2 ln2 lc2] 43))) _ _ _ _ _ (RdTn.keep (Hi.of (bal w6 (.cells #[.int .i64 15, .string emp, .int .i64 0, .slice (some ⟨w6.heap.size + 1, 0, none⟩) 2 2, .slice none 0 0] 26))) _ _ _ _ _ (RdTn.low (fun k hk (hg : w.heap.size < k ∧ k < w4.heap.size) => ⟨hg.1, by omega⟩) _ _ _ _ _ hV6))
  have hW7 : RdTn (fun k => w.heap.size < k ∧ k ≠ w6.heap.size) ((w6.alloc (.cells #[.int .i64 15, .string emp, .int .i64 0, .slice (some ⟨w6.heap.size + 1, 0, none⟩) 2 2, .slice none 0 0] 26)).alloc (.cells #[.int .i64 o, .int .i64 m, .string xs, .slice lo ln lc, .int .i64 o2, .int .i64 m2, .string xs2, .slice lo2 ln2 lc2] 43)) b (.int .i64 o2) (.int .i64 m2) (.string xs2) (.slice lo2 ln2 lc2) := RdTn.keep (Hi.of (bal (w6.alloc (.cells #[.int .i64 15, .string emp, .int .i64 0, .slice (some ⟨w6.heap.size + 1, 0, none⟩) 2 2, .slice none 0 0] 26)) (.cells #[.int .i64 o, .int .i64 m, .string xs, .slice lo ln lc, .int .i64 o2, .int .i64 m2, .string xs2, .slice lo2 ln2 lc2] 43))) _ _ _ _ _ (RdTn.keep (Hi.of (bal w6 (.cells #[.int .i64 15, .string emp, .int .i64 0, .slice (some ⟨w6.heap.size + 1, 0, none⟩) 2 2, .slice none 0 0] 26))) _ _ _ _ _ (RdTn.low (fun k hk (hg : w.heap.size < k ∧ k < w6.heap.size) => ⟨hg.1, by omega⟩) _ _ _ _ _ hW6))
  have hb5 : w.heap.size < w6.heap.size ∧ X.W.heap.size ≤ w6.heap.size ∧ X.b < w6.heap.size := ⟨by omega, by omega, by omega⟩
  have hbs : w.heap.size < w6.heap.size + 1 ∧ w6.heap.size + 1 ≠ w6.heap.size := ⟨by omega, by omega⟩
  clear h6 hC6 hU46 hX6 hX6l hs46 hY5 hR6 hU6 hV6 hW6 hz1
  generalize ((w6.alloc (.cells #[.int .i64 15, .string emp, .int .i64 0, .slice (some ⟨w6.heap.size + 1, 0, none⟩) 2 2, .slice none 0 0] 26)).alloc (.cells #[.int .i64 o, .int .i64 m, .string xs, .slice lo ln lc, .int .i64 o2, .int .i64 m2, .string xs2, .slice lo2 ln2 lc2] 43)) = w7 at h7 hU7 hR7 hF7 hG7 hV7 hW7 ⊢
  generalize w6.heap.size + 1 = gs at hF7 hG7 hV7 hW7 hb5 hbs ⊢
  generalize w6.heap.size = g5 at hF7 hG7 hV7 hW7 hb5 hbs ⊢
  rotate_left
  have hz0 : (w4.alloc (.cells zF 26)).drew.heap.size = w4.heap.size + 1 := World.size_alloc ..
  have hs47 := hC6.size
  rw [hz0] at hs47
  have hR6 := hR4.but hU46 (by omega)
  have hU6 := hU4.trans hU46
  have hV6 : RdTn (fun k => w.heap.size < k ∧ k < w4.heap.size) w6 a (.int .i64 o) (.int .i64 m) (.string xs) (.slice lo ln lc) := RdTn.keep (Hi.but hU46 (fun k (hk : w.heap.size < k ∧ k < w4.heap.size) => by omega)) _ _ _ _ _ (RdTn.low (P' := fun k => w.heap.size < k ∧ k < w4.heap.size) (fun k hk (hg : w.heap.size < k ∧ k ≠ w2.heap.size) => ⟨hg.1, hk⟩) _ _ _ _ _ hV4)
  have hW6 : RdTn (fun k => w.heap.size < k ∧ k ≠ w4.heap.size) w6 b (.int .i64 o2) (.int .i64 m2) (.string xs2) (.slice lo2 ln2 lc2) := RdTn.low (fun k hk (hg : _ ≤ k) => by rw [hz0] at hg; exact ⟨by omega, by omega⟩) _ _ _ _ _ hY5
  have hG7 : Rb ((((((w6.alloc (.cells #[.int .i64 o, .int .i64 m, .string xs, .slice lo ln lc, .int .i64 o2, .int .i64 m2, .string xs2, .slice lo2 ln2 lc2] 43)).setCell ⟨w4.heap.size, 0, none⟩ (.int .i64 15)).setCell ⟨w4.heap.size, 1, none⟩ (.string emp)).setCell ⟨w4.heap.size, 2, none⟩ (.int .i64 0)).setCell ⟨w4.heap.size, 3, none⟩ (.slice (some ⟨w6.heap.size, 0, none⟩) 2 2)).setCell ⟨w4.heap.size, 4, none⟩ (.slice none 0 0)) w6.heap.size #[.int .i64 o, .int .i64 m, .string xs, .slice lo ln lc, .int .i64 o2, .int .i64 m2, .string xs2, .slice lo2 ln2 lc2] 43 := ((((((((((rb_new w6 #[.int .i64 o, .int .i64 m, .string xs, .slice lo ln lc, .int .i64 o2, .int .i64 m2, .string xs2, .slice lo2 ln2 lc2] 43).other (X := w4.heap.size) (by omega) 0 (.int .i64 15))).other (X := w4.heap.size) (by omega) 1 (.string emp))).other (X := w4.heap.size) (by omega) 2 (.int .i64 0))).other (X := w4.heap.size) (by omega) 3 (.slice (some ⟨w6.heap.size, 0, none⟩) 2 2))).other (X := w4.heap.size) (by omega) 4 (.slice none 0 0))
  have hF7 : Rb ((((((w6.alloc (.cells #[.int .i64 o, .int .i64 m, .string xs, .slice lo ln lc, .int .i64 o2, .int .i64 m2, .string xs2, .slice lo2 ln2 lc2] 43)).setCell ⟨w4.heap.size, 0, none⟩ (.int .i64 15)).setCell ⟨w4.heap.size, 1, none⟩ (.string emp)).setCell ⟨w4.heap.size, 2, none⟩ (.int .i64 0)).setCell ⟨w4.heap.size, 3, none⟩ (.slice (some ⟨w6.heap.size, 0, none⟩) 2 2)).setCell ⟨w4.heap.size, 4, none⟩ (.slice none 0 0)) w4.heap.size #[.int .i64 15, .string emp, .int .i64 0, .slice (some ⟨w6.heap.size, 0, none⟩) 2 2, .slice none 0 0] 26 := rb_five hT7 rfl (.int .i64 15) (.string emp) (.int .i64 0) (.slice (some ⟨w6.heap.size, 0, none⟩) 2 2) (.slice none 0 0)
  have hR7 : Rb ((((((w6.alloc (.cells #[.int .i64 o, .int .i64 m, .string xs, .slice lo ln lc, .int .i64 o2, .int .i64 m2, .string xs2, .slice lo2 ln2 lc2] 43)).setCell ⟨w4.heap.size, 0, none⟩ (.int .i64 15)).setCell ⟨w4.heap.size, 1, none⟩ (.string emp)).setCell ⟨w4.heap.size, 2, none⟩ (.int .i64 0)).setCell ⟨w4.heap.size, 3, none⟩ (.slice (some ⟨w6.heap.size, 0, none⟩) 2 2)).setCell ⟨w4.heap.size, 4, none⟩ (.slice none 0 0)) w.heap.size zF 26 := ((((((((((hR6.keep (bal w6 (.cells #[.int .i64 o, .int .i64 m, .string xs, .slice lo ln lc, .int .i64 o2, .int .i64 m2, .string xs2, .slice lo2 ln2 lc2] 43))).other (X := w4.heap.size) (by omega) 0 (.int .i64 15))).other (X := w4.heap.size) (by omega) 1 (.string emp))).other (X := w4.heap.size) (by omega) 2 (.int .i64 0))).other (X := w4.heap.size) (by omega) 3 (.slice (some ⟨w6.heap.size, 0, none⟩) 2 2))).other (X := w4.heap.size) (by omega) 4 (.slice none 0 0))
  have hU7 : Bux X.b w ((((((w6.alloc (.cells #[.int .i64 o, .int .i64 m, .string xs, .slice lo ln lc, .int .i64 o2, .int .i64 m2, .string xs2, .slice lo2 ln2 lc2] 43)).setCell ⟨w4.heap.size, 0, none⟩ (.int .i64 15)).setCell ⟨w4.heap.size, 1, none⟩ (.string emp)).setCell ⟨w4.heap.size, 2, none⟩ (.int .i64 0)).setCell ⟨w4.heap.size, 3, none⟩ (.slice (some ⟨w6.heap.size, 0, none⟩) 2 2)).setCell ⟨w4.heap.size, 4, none⟩ (.slice none 0 0)) := (hU6.trans (Bux.of (bal w6 (.cells #[.int .i64 o, .int .i64 m, .string xs, .slice lo ln lc, .int .i64 o2, .int .i64 m2, .string xs2, .slice lo2 ln2 lc2] 43)))).st5 (B := w4.heap.size) (by omega) (.int .i64 15) (.string emp) (.int .i64 0) (.slice (some ⟨w6.heap.size, 0, none⟩) 2 2) (.slice none 0 0)
  have h7 : Ds X ((((((w6.alloc (.cells #[.int .i64 o, .int .i64 m, .string xs, .slice lo ln lc, .int .i64 o2, .int .i64 m2, .string xs2, .slice lo2 ln2 lc2] 43)).setCell ⟨w4.heap.size, 0, none⟩ (.int .i64 15)).setCell ⟨w4.heap.size, 1, none⟩ (.string emp)).setCell ⟨w4.heap.size, 2, none⟩ (.int .i64 0)).setCell ⟨w4.heap.size, 3, none⟩ (.slice (some ⟨w6.heap.size, 0, none⟩) 2 2)).setCell ⟨w4.heap.size, 4, none⟩ (.slice none 0 0)) r3.pos := (h6.alloc (.cells #[.int .i64 o, .int .i64 m, .string xs, .slice lo ln lc, .int .i64 o2, .int .i64 m2, .string xs2, .slice lo2 ln2 lc2] 43)).st5 (B := w4.heap.size) (by omega) (by omega) (.int .i64 15) (.string emp) (.int .i64 0) (.slice (some ⟨w6.heap.size, 0, none⟩) 2 2) (.slice none 0 0)
  have hV7 : RdTn (fun k => w.heap.size < k ∧ k ≠ w4.heap.size) ((((((w6.alloc (.cells #[.int .i64 o, .int .i64 m, .string xs, .slice lo ln lc, .int .i64 o2, .int .i64 m2, .string xs2, .slice lo2 ln2 lc2] 43)).setCell ⟨w4.heap.size, 0, none⟩ (.int .i64 15)).setCell ⟨w4.heap.size, 1, none⟩ (.string emp)).setCell ⟨w4.heap.size, 2, none⟩ (.int .i64 0)).setCell ⟨w4.heap.size, 3, none⟩ (.slice (some ⟨w6.heap.size, 0, none⟩) 2 2)).setCell ⟨w4.heap.size, 4, none⟩ (.slice none 0 0)) a (.int .i64 o) (.int .i64 m) (.string xs) (.slice lo ln lc) := RdTn.keep (Hi.st5 (fun k (hk : w.heap.size < k ∧ k ≠ w4.heap.size) => hk.2) (w6.alloc (.cells #[.int .i64 o, .int .i64 m, .string xs, .slice lo ln lc, .int .i64 o2, .int .i64 m2, .string xs2, .slice lo2 ln2 lc2] 43)) (.int .i64 15) (.string emp) (.int .i64 0) (.slice (some ⟨w6.heap.size, 0, none⟩) 2 2) (.slice none 0 0)) _ _ _ _ _ (RdTn.keep (Hi.of (bal w6 (.cells #[.int .i64 o, .int .i64 m, .string xs, .slice lo ln lc, .int .i64 o2, .int .i64 m2, .string xs2, .slice lo2 ln2 lc2] 43))) _ _ _ _ _ (RdTn.low (fun k hk (hg : w.heap.size < k ∧ k < w4.heap.size) => ⟨hg.1, by omega⟩) _ _ _ _ _ hV6))
  have hW7 : RdTn (fun k => w.heap.size < k ∧ k ≠ w4.heap.size) ((((((w6.alloc (.cells #[.int .i64 o, .int .i64 m, .string xs, .slice lo ln lc, .int .i64 o2, .int .i64 m2, .string xs2, .slice lo2 ln2 lc2] 43)).setCell ⟨w4.heap.size, 0, none⟩ (.int .i64 15)).setCell ⟨w4.heap.size, 1, none⟩ (.string emp)).setCell ⟨w4.heap.size, 2, none⟩ (.int .i64 0)).setCell ⟨w4.heap.size, 3, none⟩ (.slice (some ⟨w6.heap.size, 0, none⟩) 2 2)).setCell ⟨w4.heap.size, 4, none⟩ (.slice none 0 0)) b (.int .i64 o2) (.int .i64 m2) (.string xs2) (.slice lo2 ln2 lc2) := RdTn.keep (Hi.st5 (fun k (hk : w.heap.size < k ∧ k ≠ w4.heap.size) => hk.2) (w6.alloc (.cells #[.int .i64 o, .int .i64 m, .string xs, .slice lo ln lc, .int .i64 o2, .int .i64 m2, .string xs2, .slice lo2 ln2 lc2] 43)) (.int .i64 15) (.string emp) (.int .i64 0) (.slice (some ⟨w6.heap.size, 0, none⟩) 2 2) (.slice none 0 0)) _ _ _ _ _ (RdTn.keep (Hi.of (bal w6 (.cells #[.int .i64 o, .int .i64 m, .string xs, .slice lo ln lc, .int .i64 o2, .int .i64 m2, .string xs2, .slice lo2 ln2 lc2] 43))) _ _ _ _ _ (hW6))
  have hb5 : w.heap.size < w4.heap.size ∧ X.W.heap.size ≤ w4.heap.size ∧ X.b < w4.heap.size := ⟨by omega, by omega, by omega⟩
  have hbs : w.heap.size < w6.heap.size ∧ w6.heap.size ≠ w4.heap.size := ⟨by omega, by omega⟩
  clear h6 hC6 hU46 hX6 hX6l hs46 hY5 hR6 hU6 hV6 hW6 hz0 hs47 hT6 hT7 u0 u1 u2 u3 u4 v0 v1 v2 v3 v4
  generalize ((((((w6.alloc (.cells #[.int .i64 o, .int .i64 m, .string xs, .slice lo ln lc, .int .i64 o2, .int .i64 m2, .string xs2, .slice lo2 ln2 lc2] 43)).setCell ⟨w4.heap.size, 0, none⟩ (.int .i64 15)).setCell ⟨w4.heap.size, 1, none⟩ (.string emp)).setCell ⟨w4.heap.size, 2, none⟩ (.int .i64 0)).setCell ⟨w4.heap.size, 3, none⟩ (.slice (some ⟨w6.heap.size, 0, none⟩) 2 2)).setCell ⟨w4.heap.size, 4, none⟩ (.slice none 0 0)) = w7 at h7 hU7 hR7 hF7 hG7 hV7 hW7 ⊢
  generalize w6.heap.size = gs at hF7 hG7 hV7 hW7 hb5 hbs ⊢
  generalize w4.heap.size = g5 at hF7 hG7 hV7 hW7 hb5 hbs ⊢
  rotate_left
  all_goals
    clear K0 hF4 h4 hX4 hR4 hU4 hV4 hDr hX4l hb4 T1 BC T3 hV2 h2 hC2 hR2 hU2 hX2 h3 hB3 hR3 hU3 hX3 hV3 h1 hR1 hB1 HQ
    go_wp2_with (first
      | (go_at_call 69; refine (dpast_at (x := kMod) h7 HN.out).mono ?_; rintro e w8 ⟨rfl, h8, hC8⟩; have hR8 := hR7.but hC8 (by omega); have hU8 := hU7.trans hC8; have hF8 := hF7.but hC8 (by omega); have hG8 := hG7.but hC8 (by omega); have hV8 := RdTn.keep (Hi.but hC8 (fun k hk => by omega)) _ _ _ _ _ hV7; have hW8 := RdTn.keep (Hi.but hC8 (fun k hk => by omega)) _ _ _ _ _ hW7; clear h7 hR7 hU7 hF7 hG7 hV7 hW7 hC8))
    refine (dkd_yes (k := 1) h8 HK.out).mono ?_
    rintro e w9 ⟨rfl, hB9⟩
    have h9 := h8.keep hB9
    have hR9 := hR8.keep hB9
    have hU9 := hU8.trans (Bux.of hB9)
    have hF9 := hF8.keep hB9
    have hG9 := hG8.keep hB9
    have hV9 := RdTn.keep (Hi.of hB9) _ _ _ _ _ hV8
    have hW9 := RdTn.keep (Hi.of hB9) _ _ _ _ _ hW8
    clear h8 hR8 hU8 hF8 hG8 hV8 hW8 hB9
    have hlen := h9.words.len
    have hltq := HD.out.lt
    have hcap := h9.words.rd.lecap
    have hcx := h9.words.rd.lemax
    have hltn : q < X.n := by omega
    have hsm9 := h9.small
    obtain ⟨y, g, off, hy, hao, hg, c0, c1, c2, -⟩ := h9.words.get h9.below hltn
    obtain ⟨T0, -⟩ := txcell h9.at'.2 0 _ rfl
    obtain ⟨T1, F1⟩ := txcell h9.at'.2 1 _ rfl
    rw [hao] at T0
    have hyn := num_of hy HD.out
    rw [hyn] at c2
    obtain ⟨m2', q2⟩ := txcell hF9 2 _ rfl
    clear c0 c1 hy hyn hao
    have c2' : w9.cell? ⟨g, off + q * 5 + 2, none⟩ = some (.int .i64 0) := c2
    clear c2
    have hlk := h9.below.size
    have hX9l := rb_lt hR9
    go_wp2_with (fail)
    go_region
    have h10 : Ds X (w9.setCell ⟨g5, 2, none⟩ (.int .i64 0)).drew (.at q) := (h9.other (B := g5) (by omega) (by omega) 2 (.int .i64 0)).drew
    have hR10 : Rb (w9.setCell ⟨g5, 2, none⟩ (.int .i64 0)).drew w.heap.size zF 26 := rbD (hR9.other (X := g5) (by omega) 2 (.int .i64 0))
    have hU10 : Bux X.b w (w9.setCell ⟨g5, 2, none⟩ (.int .i64 0)).drew := buxD (but_new (B := g5) hU9 (by omega) 2 (.int .i64 0))
    have hF10 : Rb (w9.setCell ⟨g5, 2, none⟩ (.int .i64 0)).drew g5 #[.int .i64 15, .string emp, (.int .i64 0), .slice (some ⟨gs, 0, none⟩) 2 2, .slice none 0 0] 26 := rbD (tx_set hF9 2 (.int .i64 0))
    have hG10 := rbD (hG9.other (X := g5) hbs.2 2 (.int .i64 0))
    have hV10 := RdTn.keep (W' := (w9.setCell ⟨g5, 2, none⟩ (.int .i64 0)).drew) (Hi.of (Below.refl _ (w9.setCell ⟨g5, 2, none⟩ (.int .i64 0))).drew) _ _ _ _ _ (RdTn.keep ((Hi.refl _ w9).set (g := g5) (fun k (hk : w.heap.size < k ∧ k ≠ g5) => hk.2) 2 (.int .i64 0)) _ _ _ _ _ hV9)
    have hW10 := RdTn.keep (W' := (w9.setCell ⟨g5, 2, none⟩ (.int .i64 0)).drew) (Hi.of (Below.refl _ (w9.setCell ⟨g5, 2, none⟩ (.int .i64 0))).drew) _ _ _ _ _ (RdTn.keep ((Hi.refl _ w9).set (g := g5) (fun k (hk : w.heap.size < k ∧ k ≠ g5) => hk.2) 2 (.int .i64 0)) _ _ _ _ _ hW9)
    generalize (w9.setCell ⟨g5, 2, none⟩ (.int .i64 0)).drew = w10 at h10 hR10 hU10 hF10 hG10 hV10 hW10 ⊢
    clear T0 T1 F1 m2' q2 c2' h9 hR9 hU9 hF9 hG9 hV9 hW9 hlk hX9l hcap hcx hg
    obtain ⟨M2, -⟩ := txcell hF10 2 _ rfl
    go_wp2_with (fail)
    refine (fail_at X.ao X.n X.cap X.b q 0 0 92 w10 h10.at'.2).mono ?_
    rintro e w11 ⟨rfl, hT11, hC11⟩
    rw [if_pos rfl, if_pos rfl] at hT11
    have hR11 := hR10.but hC11 (by omega)
    have hF11 := hF10.but hC11 (by omega)
    have hG11 := hG10.but hC11 (by omega)
    have hV11 := RdTn.keep (Hi.but hC11 (fun k (hk : w.heap.size < k ∧ k ≠ g5) => by omega)) _ _ _ _ _ hV10
    have hW11 := RdTn.keep (Hi.but hC11 (fun k (hk : w.heap.size < k ∧ k ≠ g5) => by omega)) _ _ _ _ _ hW10
    obtain ⟨t1, f1⟩ := txcell hT11 1 _ rfl
    have hC12 : Bux X.b w11 (w11.setCell ⟨X.b, 1, none⟩ (.int .i64 ((q : Int) + 1))) := (Bux.refl _ w11).set 1 _
    have h12 : Ds X (w11.setCell ⟨X.b, 1, none⟩ (.int .i64 ((q : Int) + 1))) (.bad 92 q) := h10.to (hC11.trans hC12) ⟨by decide, q + 1, by omega, tx_set hT11 1 _⟩
    have hU12 := (hU10.trans hC11).trans hC12
    have hR12 := hR11.but hC12 (by omega)
    have hF12 := hF11.but hC12 (by omega)
    clear M2
    obtain ⟨f0, -⟩ := txcell hF12 0 _ rfl
    obtain ⟨f9, -⟩ := txcell hF12 1 _ rfl
    obtain ⟨f2, -⟩ := txcell hF12 2 _ rfl
    obtain ⟨f3, -⟩ := txcell hF12 3 _ rfl
    obtain ⟨f4, -⟩ := txcell hF12 4 _ rfl
    obtain ⟨r0, g0⟩ := txcell hR12 0 _ rfl
    obtain ⟨r1', g1⟩ := txcell hR12 1 _ rfl
    obtain ⟨r2, g2⟩ := txcell hR12 2 _ rfl
    obtain ⟨r3', g3⟩ := txcell hR12 3 _ rfl
    obtain ⟨r4, g4⟩ := txcell hR12 4 _ rfl
    go_wp2
    have hG12 := hG11.but hC12 (by omega)
    have hV12 := RdTn.keep (Hi.but hC12 (fun k (hk : w.heap.size < k ∧ k ≠ g5) => by omega)) _ _ _ _ _ hV11
    have hW12 := RdTn.keep (Hi.but hC12 (fun k (hk : w.heap.size < k ∧ k ≠ g5) => by omega)) _ _ _ _ _ hW11
    generalize w11.setCell ⟨X.b, 1, none⟩ (.int .i64 ((q : Int) + 1)) = w12 at h12 hU12 hR12 hF12 hG12 hV12 hW12 ⊢
    have hz7 : RdFn (fun k => w.heap.size < k ∧ k ≠ g5) w12 (.mk 15 emp 0 [a, b] []) (.int .i64 15) (.string emp) (.int .i64 0) (.slice (some ⟨gs, 0, none⟩) 2 2) (.slice none 0 0) := mkA2 (P := fun k => w.heap.size < k ∧ k ≠ g5) hV12 hW12 hG12 hbs 15 0 emp ⟨by decide, by decide, sz_emp⟩
    have hz8 := RdFn.keep (Hi.st5 (P := fun k => w.heap.size < k ∧ k ≠ g5) (B := w.heap.size) (fun k (hk : w.heap.size < k ∧ k ≠ g5) => by omega) w12 (.int .i64 15) (.string emp) (.int .i64 0) (.slice (some ⟨gs, 0, none⟩) 2 2) (.slice none 0 0)) _ _ _ _ _ _ hz7
    have hz9 := RdFn.low (P' := Ge w.heap.size) (fun k _ (hk : w.heap.size < k ∧ k ≠ g5) => Nat.le_of_lt hk.1) _ _ _ _ _ _ hz8
    have hRy := rb_five hR12 rfl (.int .i64 15) (.string emp) (.int .i64 0) (.slice (some ⟨gs, 0, none⟩) 2 2) (.slice none 0 0)
    obtain ⟨k0, -⟩ := txcell hRy 0 _ rfl
    obtain ⟨k1, -⟩ := txcell hRy 1 _ rfl
    obtain ⟨k2, -⟩ := txcell hRy 2 _ rfl
    obtain ⟨k3, -⟩ := txcell hRy 3 _ rfl
    obtain ⟨k4, -⟩ := txcell hRy 4 _ rfl
    have hE9 := h12.st5 (B := w.heap.size) (by omega) hWw (.int .i64 15) (.string emp) (.int .i64 0) (.slice (some ⟨gs, 0, none⟩) 2 2) (.slice none 0 0)
    have hUE9 := hU12.st5 (Nat.le_refl _) (.int .i64 15) (.string emp) (.int .i64 0) (.slice (some ⟨gs, 0, none⟩) 2 2) (.slice none 0 0)
    rw [← HP.out] at hE9
    have hi9 := HI.out (.mk 15 emp 0 [a, b] [])
    exact bodyPost_ret (v := .agg #[.int .i64 15, .string emp, .int .i64 0, .slice (some ⟨gs, 0, none⟩) 2 2, .slice none 0 0]) (by simp [results, Tryz.results70, go_sem, k0, k1, k2, k3, k4]) rfl ⟨15, emp, 0, some ⟨gs, 0, none⟩, 2, 2, none, 0, 0, _, rfl, hz9, hE9, hUE9, hi9⟩
theorem datom_step {X : Rx} {N : Nat} (hWd : WdOk X.ws) (T : DSum X N) : DAtm X N := by
  intro w P r h hP hr
  obtain ⟨r1, hr1, hA⟩ := ga_of hr
  obtain ⟨i, P2, hi⟩ := gr_ex X.ws r1.pos
  obtain ⟨r3, hr3, hno, hnone, hyes⟩ := hA i P2 hi
  have hf1 := hr1.from hP
  have hf2 := hi.from hf1
  have S1 : ∀ w5, Ds X w5 P → Calls Tryz.prog 25 #[.pointer (some ⟨X.b, 0, none⟩)] w5 (DTm X w5 r1) := fun w5 h5 => T w5 P r1 h5 hP hr1
  cases i with
  | none =>
    obtain ⟨hns, rfl⟩ := gr_none hi
    refine datom_none h S1 rfl hns ?_ (hnone rfl)
    rw [(hno (by simp)).1]
    obtain ⟨y, q, e⟩ := @ref_bad r1.pos 71
    rw [e] at hr3 ⊢
    exact gt_bad hr3
  | some i =>
    obtain ⟨p, hp1, hi7, hs, rfl⟩ := gr_some hi
    have S3 : ∀ w5, Ds X w5 (.at (p + 1)) → Calls Tryz.prog 25 #[.pointer (some ⟨X.b, 0, none⟩)] w5 (DTm X w5 r3) := fun w5 h5 => T w5 _ r3 h5 hf2 hr3
    have BC : ∀ w3, Ds X w3 (.at p) → Calls Tryz.prog 93 #[.pointer (some ⟨X.b, 0, none⟩)] w3 fun e w' => e = .returned (.int .i64 (9 + (i : Int))) ∧ Ds X w' (.at p) ∧ Below w3.heap.size w3 w' := fun w3 h3 => dbetween_at h3 (9 + (i : Int)) (fun j hj hs' => by rw [rels_one j hj i hi7 (IsS.one hs' hs)]) (fun hn => absurd hs (hn i hi7))
    by_cases h6 : i = 6
    · subst h6
      have BC6 : ∀ w3, Ds X w3 (.at p) → Calls Tryz.prog 93 #[.pointer (some ⟨X.b, 0, none⟩)] w3 fun e w' => e = .returned (.int .i64 15) ∧ Ds X w' (.at p) ∧ Below w3.heap.size w3 w' := BC
      obtain ⟨P4, hn4⟩ := need_ex X.ws kMod r3.pos
      obtain ⟨r5, hr5, hp5, hi5⟩ := hyes rfl P4 hn4
      by_cases hk : P4.kinds X.ws 1
      · obtain ⟨q, n, rfl, hd⟩ := isD_kinds hk
        by_cases h0 : n = 0
        · subst h0
          have hr' : r5 = .bad 92 q := by
            cases hr5 with
            | none hn => exact absurd hd (hn _)
            | zero _ => rfl
            | ok h1 h2 => exact absurd (h1.one hd) (by omega)
          subst hr'
          have hrp : r.pos = .bad 92 q := hp5
          exact datom_zero h S1 S3 hp1 hs.lt BC6 hn4 hd hrp (pos_bad hrp)
        · have hr' : r5 = .ok n (q + 1) := by
            cases hr5 with
            | none hn => exact absurd hd (hn _)
            | zero hz => exact absurd (hz.one hd) (by omega)
            | ok h1 h2 => rw [h1.one hd]
          subst hr'
          exact datom_num h S1 S3 hp1 hs.lt BC6 hn4 hd h0 (hWd.num hd) hp5 (fun a b ha hb => hi5 a b n ha hb (is_ok rfl))
      · have hr' : r5.pos = P4.ref 71 := by
          cases hr5 with
          | bad => rfl
          | none _ => rfl
          | zero hz => exact absurd (kinds_of hz) hk
          | ok h1 h2 => exact absurd (kinds_of h1) hk
        have hrp : r.pos = P4.ref 71 := hp5.trans hr'
        refine datom_no h S1 S3 hp1 hs.lt BC6 hn4 hk hrp ?_
        obtain ⟨y, q, e⟩ := @ref_bad P4 71
        rw [e] at hrp
        exact pos_bad hrp
    · have hne : some i ≠ some 6 := fun e => h6 (by simpa using e)
      exact datom_rel h S1 S3 hp1 hs.lt BC ⟨by omega, by omega⟩ (by omega) (by rw [beq_eq_false_iff_ne]; omega) (hno hne).1 (fun a b ha hb => (hno hne).2 a b i rfl ha hb)
end Go.Proofs.YtabfhdmcljdjhaaGreatDoor.Gl
