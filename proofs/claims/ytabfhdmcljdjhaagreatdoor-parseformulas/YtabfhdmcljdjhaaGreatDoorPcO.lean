/- The landed reader: quantified, unary; formulas whole. -/
import Derived.Test.YtabfhdmcljdjhaaGreatDoorPcF
import Derived.Test.YtabfhdmcljdjhaaGreatDoorPcH
namespace Go.Proofs.YtabfhdmcljdjhaaGreatDoor.Gl
open Go.RowKit
set_option linter.unusedVariables false
set_option linter.unusedSimpArgs false

def QuC (q : Int) (X : Rx) (N : Nat) : Prop := ∀ w P r, Ps X w P → P.from N → GQ X.ws q P r → Calls Tryz.prog 106 #[.pointer (some ⟨X.b, 0, none⟩), .int .i64 q] w (FmRes X w r)
set_option maxRecDepth 100000 in
set_option maxHeartbeats 4000000 in
theorem quant_last {X : Rx} {N : Nat} {q : Int} (hq : I64 q) {w : World} {P P1 P' : Pos} {x : ByteArray} {r r' : Out Fm} (U : UnC X N) (h : Ps X w P) (hx : Sz x.size)
    (NC0 : ∀ w1, Ps X w1 P → Calls Tryz.prog 113 #[.pointer (some ⟨X.b, 0, none⟩)] w1 fun e w' => e = .returned (.string x) ∧ Ps X w' P1 ∧ Bux X.b w1 w')
    (hc : ¬ P1.stands X.ws kComma) (hn : P1.need X.ws kDot P') (hP' : P'.from N) (hr' : GF X.ws .un P' r') (hp : r.pos = r'.pos) (hi : ∀ f, r'.is f → r.is (fQ q x f)) :
    Calls Tryz.prog 106 #[.pointer (some ⟨X.b, 0, none⟩), .int .i64 q] w (FmRes X w r) := by
  have hbw := h.lt
  have hWw := h.below.size
  have hR1 := rb_new w zF 26
  have h1 := h.alloc (.cells zF 26)
  have hB1 : Bux X.b w (w.alloc (.cells zF 26)) := Bux.of (bal w _)
  have NC := mkHid (NC0 _ h1)
  have UC := mkHid (fun w5 (h5 : Ps X w5 P') => U w5 P' r' h5 hP' hr')
  have HP := mkHid hp
  have HI := mkHid hi
  have HN := mkHid hn
  clear U NC0 hn hP' hr' hp hi
  go_enter Tryz.func106, Tryz.ntmps106
  go_wp2_with (first
    | (go_at_call 113; refine (NC.out).mono ?_; rintro e w2 ⟨rfl, h2, hC2⟩; have hR2 := (hR1.but hC2 (by omega)).keep (bal w2 (.cells #[.int .i64 q, .string x, .int .i64 0, .slice none 0 0, .slice none 0 0] 26)); have hs2 : w.heap.size < w2.heap.size := (Array.getElem?_eq_some_iff.1 (hR1.but hC2 (by omega))).1; have hU2 := (hB1.trans hC2).trans (Bux.of (bal w2 (.cells #[.int .i64 q, .string x, .int .i64 0, .slice none 0 0, .slice none 0 0] 26))); have hX2 := rb_new w2 #[.int .i64 q, .string x, .int .i64 0, .slice none 0 0, .slice none 0 0] 26; have hb2 := h2.lt)
    | (go_at_call 31; refine (takes_no (x := kComma) (h2.alloc _) (by decide) hc).mono ?_; rintro e w3 ⟨rfl, h3, hB3⟩; have hX3 := hX2.keep hB3; have hR3 := hR2.keep hB3; have hU3 := hU2.trans (Bux.of hB3))
    | (go_at_call 94; refine (needs_at (x := kDot) h3 (by decide) HN.out).mono ?_; rintro e w6 ⟨rfl, h6, hC6⟩; have hX6 := hX3.but hC6 (by omega); have hR6 := hR3.but hC6 (by omega); have hU6 := hU3.trans hC6)
    | (go_at_call 102; refine (UC.out _ h6).mono ?_; rintro e w4 ⟨o, xs, m, bo, n1, c1, lo, ln, lc, f, rfl, hV4, h4, hC4, hf⟩; have hX4 := hX6.but hC4 (by omega); have hR4 := hR6.but hC4 (by omega); have hU4 := hU6.trans hC4; have hs4 := (Array.getElem?_eq_some_iff.1 hX6).1; have hs5 := hC4.size; have hq4 : w2.heap.size < w4.heap.size := (by omega); have hz5 : (w4.setCell ⟨w2.heap.size, 4, none⟩ (.slice (some ⟨w4.heap.size, 0, none⟩) 1 1)).heap.size = w4.heap.size := (by simp [World.setCell]); have hF4 : RdFn (fun k => w.heap.size < k ∧ k ≠ w2.heap.size) w4 f (.int .i64 o) (.string xs) (.int .i64 m) (.slice bo n1 c1) (.slice lo ln lc) := RdFn.low (fun k _ (hg : _ ≤ k) => ⟨by omega, by omega⟩) _ _ _ _ _ _ hV4; have hF5 := mkF1 (t := 26) (RdFn.keep ((Hi.refl _ w4).set (g := w2.heap.size) (fun k (hk : w.heap.size < k ∧ k ≠ w2.heap.size) => hk.2) 4 (.slice (some ⟨w4.heap.size, 0, none⟩) 1 1)) _ _ _ _ _ _ hF4) hz5 ⟨by omega, by omega⟩ q 0 x ⟨hq, by decide, hx⟩; have h5 := (h4.other (B := w2.heap.size) (by omega) (by omega) 4 (.slice (some ⟨w4.heap.size, 0, none⟩) 1 1)).alloc (.cells #[.int .i64 o, .string xs, .int .i64 m, .slice bo n1 c1, .slice lo ln lc] 26); have hR5 := (hR4.other (X := w2.heap.size) (by omega) 4 (.slice (some ⟨w4.heap.size, 0, none⟩) 1 1)).keep (bal _ (.cells #[.int .i64 o, .string xs, .int .i64 m, .slice bo n1 c1, .slice lo ln lc] 26)); have hU5 := (but_new (B := w2.heap.size) hU4 (by omega) 4 (.slice (some ⟨w4.heap.size, 0, none⟩) 1 1)).trans (Bux.of (bal _ (.cells #[.int .i64 o, .string xs, .int .i64 m, .slice bo n1 c1, .slice lo ln lc] 26))); have hX5a : Rb (w4.setCell ⟨w2.heap.size, 4, none⟩ (.slice (some ⟨w4.heap.size, 0, none⟩) 1 1)) w2.heap.size #[.int .i64 q, .string x, .int .i64 0, .slice none 0 0, .slice (some ⟨w4.heap.size, 0, none⟩) 1 1] 26 := tx_set hX4 4 (.slice (some ⟨w4.heap.size, 0, none⟩) 1 1); have hX5 := hX5a.keep (bal _ (.cells #[.int .i64 o, .string xs, .int .i64 m, .slice bo n1 c1, .slice lo ln lc] 26)); clear hz5 hX5a; obtain ⟨y4, q4⟩ := txcell hX4 4 _ rfl; obtain ⟨x0, -⟩ := txcell hX5 0 _ rfl; obtain ⟨x1, -⟩ := txcell hX5 1 _ rfl; obtain ⟨x2, -⟩ := txcell hX5 2 _ rfl; obtain ⟨x3, -⟩ := txcell hX5 3 _ rfl; obtain ⟨x4, -⟩ := txcell hX5 4 _ rfl; obtain ⟨r0, g0⟩ := txcell hR5 0 _ rfl; obtain ⟨r1, g1⟩ := txcell hR5 1 _ rfl; obtain ⟨r2, g2⟩ := txcell hR5 2 _ rfl; obtain ⟨r3, g3⟩ := txcell hR5 3 _ rfl; obtain ⟨r4, g4⟩ := txcell hR5 4 _ rfl; have hRy := rb_five hR5 rfl (.int .i64 q) (.string x) (.int .i64 0) (.slice none 0 0) (.slice (some ⟨w4.heap.size, 0, none⟩) 1 1); obtain ⟨k0, -⟩ := txcell hRy 0 _ rfl; obtain ⟨k1, -⟩ := txcell hRy 1 _ rfl; obtain ⟨k2, -⟩ := txcell hRy 2 _ rfl; obtain ⟨k3, -⟩ := txcell hRy 3 _ rfl; obtain ⟨k4, -⟩ := txcell hRy 4 _ rfl))
  exact bodyPost_ret (v := .agg #[.int .i64 q, .string x, .int .i64 0, .slice none 0 0, .slice (some ⟨w4.heap.size, 0, none⟩) 1 1]) (by simp [results, Tryz.results106, go_sem, k0, k1, k2, k3, k4]) rfl ⟨_, _, _, _, _, _, _, _, _, _, rfl, RdFn.low (fun k _ (hk : w.heap.size < k ∧ k ≠ w2.heap.size) => Nat.le_of_lt hk.1) _ _ _ _ _ _ (RdFn.keep (Hi.st5 (fun k (hk : w.heap.size < k ∧ k ≠ w2.heap.size) => by omega) _ (.int .i64 q) (.string x) (.int .i64 0) (.slice none 0 0) (.slice (some ⟨w4.heap.size, 0, none⟩) 1 1)) _ _ _ _ _ _ hF5), by rw [HP.out]; exact h5.st5 (by omega) hWw (.int .i64 q) (.string x) (.int .i64 0) (.slice none 0 0) (.slice (some ⟨w4.heap.size, 0, none⟩) 1 1), hU5.st5 (Nat.le_refl _) (.int .i64 q) (.string x) (.int .i64 0) (.slice none 0 0) (.slice (some ⟨w4.heap.size, 0, none⟩) 1 1), HI.out f hf⟩
set_option maxRecDepth 100000 in
set_option maxHeartbeats 4000000 in
theorem quant_more {X : Rx} {N : Nat} {q : Int} (hq : I64 q) {w : World} {p : Nat} {x : ByteArray} {r r' : Out Fm} (h : Ps X w (.at p)) (hx : Sz x.size) (hnx : IsN X.ws p x) (hc : IsS X.ws (p + 1) kComma)
    (QC0 : ∀ w5, Ps X w5 (.at (p + 2)) → Calls Tryz.prog 106 #[.pointer (some ⟨X.b, 0, none⟩), .int .i64 q] w5 (FmRes X w5 r')) (hp : r.pos = r'.pos) (hi : ∀ f, r'.is f → r.is (fQ q x f)) :
    Calls Tryz.prog 106 #[.pointer (some ⟨X.b, 0, none⟩), .int .i64 q] w (FmRes X w r) := by
  have hbw := h.lt
  have hWw := h.below.size
  have hR1 := rb_new w zF 26
  have h1 := h.alloc (.cells zF 26)
  have hB1 : Bux X.b w (w.alloc (.cells zF 26)) := Bux.of (bal w _)
  have NC := mkHid (nm_yes h1 hnx)
  have QC := mkHid QC0
  have HP := mkHid hp
  have HI := mkHid hi
  clear QC0 hp hi hnx
  go_enter Tryz.func106, Tryz.ntmps106
  go_wp2_with (first
    | (go_at_call 113; refine (NC.out).mono ?_; rintro e w2 ⟨rfl, h2, hC2⟩; have hR2 := (hR1.but hC2 (by omega)).keep (bal w2 (.cells #[.int .i64 q, .string x, .int .i64 0, .slice none 0 0, .slice none 0 0] 26)); have hs2 : w.heap.size < w2.heap.size := (Array.getElem?_eq_some_iff.1 (hR1.but hC2 (by omega))).1; have hU2 := (hB1.trans hC2).trans (Bux.of (bal w2 (.cells #[.int .i64 q, .string x, .int .i64 0, .slice none 0 0, .slice none 0 0] 26))); have hX2 := rb_new w2 #[.int .i64 q, .string x, .int .i64 0, .slice none 0 0, .slice none 0 0] 26; have hb2 := h2.lt)
    | (go_at_call 31; refine (takes_yes (x := kComma) (h2.alloc _) hc).mono ?_; rintro e w3 ⟨rfl, h3, hC3⟩; have hX3 := hX2.but hC3 (by omega); have hR3 := hR2.but hC3 (by omega); have hU3 := hU2.trans hC3)
    | (go_at_call 106; refine (QC.out _ h3).mono ?_; rintro e w4 ⟨o, xs, m, bo, n1, c1, lo, ln, lc, f, rfl, hV4, h4, hC4, hf⟩; have hX4 := hX3.but hC4 (by omega); have hR4 := hR3.but hC4 (by omega); have hU4 := hU3.trans hC4; have hs4 := (Array.getElem?_eq_some_iff.1 hX3).1; have hs5 := hC4.size; have hq4 : w2.heap.size < w4.heap.size := (by omega); have hz5 : (w4.setCell ⟨w2.heap.size, 4, none⟩ (.slice (some ⟨w4.heap.size, 0, none⟩) 1 1)).heap.size = w4.heap.size := (by simp [World.setCell]); have hF4 : RdFn (fun k => w.heap.size < k ∧ k ≠ w2.heap.size) w4 f (.int .i64 o) (.string xs) (.int .i64 m) (.slice bo n1 c1) (.slice lo ln lc) := RdFn.low (fun k _ (hg : _ ≤ k) => ⟨by omega, by omega⟩) _ _ _ _ _ _ hV4; have hF5 := mkF1 (t := 26) (RdFn.keep ((Hi.refl _ w4).set (g := w2.heap.size) (fun k (hk : w.heap.size < k ∧ k ≠ w2.heap.size) => hk.2) 4 (.slice (some ⟨w4.heap.size, 0, none⟩) 1 1)) _ _ _ _ _ _ hF4) hz5 ⟨by omega, by omega⟩ q 0 x ⟨hq, by decide, hx⟩; have h5 := (h4.other (B := w2.heap.size) (by omega) (by omega) 4 (.slice (some ⟨w4.heap.size, 0, none⟩) 1 1)).alloc (.cells #[.int .i64 o, .string xs, .int .i64 m, .slice bo n1 c1, .slice lo ln lc] 26); have hR5 := (hR4.other (X := w2.heap.size) (by omega) 4 (.slice (some ⟨w4.heap.size, 0, none⟩) 1 1)).keep (bal _ (.cells #[.int .i64 o, .string xs, .int .i64 m, .slice bo n1 c1, .slice lo ln lc] 26)); have hU5 := (but_new (B := w2.heap.size) hU4 (by omega) 4 (.slice (some ⟨w4.heap.size, 0, none⟩) 1 1)).trans (Bux.of (bal _ (.cells #[.int .i64 o, .string xs, .int .i64 m, .slice bo n1 c1, .slice lo ln lc] 26))); have hX5a : Rb (w4.setCell ⟨w2.heap.size, 4, none⟩ (.slice (some ⟨w4.heap.size, 0, none⟩) 1 1)) w2.heap.size #[.int .i64 q, .string x, .int .i64 0, .slice none 0 0, .slice (some ⟨w4.heap.size, 0, none⟩) 1 1] 26 := tx_set hX4 4 (.slice (some ⟨w4.heap.size, 0, none⟩) 1 1); have hX5 := hX5a.keep (bal _ (.cells #[.int .i64 o, .string xs, .int .i64 m, .slice bo n1 c1, .slice lo ln lc] 26)); clear hz5 hX5a; obtain ⟨y4, q4⟩ := txcell hX4 4 _ rfl; obtain ⟨x0, -⟩ := txcell hX5 0 _ rfl; obtain ⟨x1, -⟩ := txcell hX5 1 _ rfl; obtain ⟨x2, -⟩ := txcell hX5 2 _ rfl; obtain ⟨x3, -⟩ := txcell hX5 3 _ rfl; obtain ⟨x4, -⟩ := txcell hX5 4 _ rfl; obtain ⟨r0, g0⟩ := txcell hR5 0 _ rfl; obtain ⟨r1, g1⟩ := txcell hR5 1 _ rfl; obtain ⟨r2, g2⟩ := txcell hR5 2 _ rfl; obtain ⟨r3, g3⟩ := txcell hR5 3 _ rfl; obtain ⟨r4, g4⟩ := txcell hR5 4 _ rfl; have hRy := rb_five hR5 rfl (.int .i64 q) (.string x) (.int .i64 0) (.slice none 0 0) (.slice (some ⟨w4.heap.size, 0, none⟩) 1 1); obtain ⟨k0, -⟩ := txcell hRy 0 _ rfl; obtain ⟨k1, -⟩ := txcell hRy 1 _ rfl; obtain ⟨k2, -⟩ := txcell hRy 2 _ rfl; obtain ⟨k3, -⟩ := txcell hRy 3 _ rfl; obtain ⟨k4, -⟩ := txcell hRy 4 _ rfl))
  exact bodyPost_ret (v := .agg #[.int .i64 q, .string x, .int .i64 0, .slice none 0 0, .slice (some ⟨w4.heap.size, 0, none⟩) 1 1]) (by simp [results, Tryz.results106, go_sem, k0, k1, k2, k3, k4]) rfl ⟨_, _, _, _, _, _, _, _, _, _, rfl, RdFn.low (fun k _ (hk : w.heap.size < k ∧ k ≠ w2.heap.size) => Nat.le_of_lt hk.1) _ _ _ _ _ _ (RdFn.keep (Hi.st5 (fun k (hk : w.heap.size < k ∧ k ≠ w2.heap.size) => by omega) _ (.int .i64 q) (.string x) (.int .i64 0) (.slice none 0 0) (.slice (some ⟨w4.heap.size, 0, none⟩) 1 1)) _ _ _ _ _ _ hF5), by rw [HP.out]; exact h5.st5 (by omega) hWw (.int .i64 q) (.string x) (.int .i64 0) (.slice none 0 0) (.slice (some ⟨w4.heap.size, 0, none⟩) 1 1), hU5.st5 (Nat.le_refl _) (.int .i64 q) (.string x) (.int .i64 0) (.slice none 0 0) (.slice (some ⟨w4.heap.size, 0, none⟩) 1 1), HI.out f hf⟩
theorem quant_step {X : Rx} {N : Nat} {q : Int} (hq : I64 q) (hWd : WdOk X.ws) (U : UnC X N) (I : N < X.ws.length → QuC q X (N + 1)) : QuC q X N := by
  intro w P r h hP hr
  by_cases hk : P.kinds X.ws 0
  · obtain ⟨p, x, rfl, hx⟩ := isN_kinds hk
    have hlt := hx.lt
    have hPN : N ≤ p := hP
    by_cases hc : IsS X.ws (p + 1) kComma
    · obtain ⟨r', hr', hp, hi⟩ := gq_more hr hx hc
      exact quant_more (N := N) hq h (hWd.name hx) hx hc (fun w5 h5 => I (by omega) w5 _ r' h5 (by show N + 1 ≤ p + 2; omega) hr') hp hi
    · obtain ⟨P', hn⟩ := need_ex X.ws kDot (.at (p + 1))
      obtain ⟨r', hr', hp, hi⟩ := gq_last hr hx hc P' hn
      exact quant_last hq U h (hWd.name hx) (fun w1 h1 => nm_yes h1 hx) hc hn (hn.from (by show N ≤ p + 1; omega)) hr' hp hi
  · obtain ⟨hp, hi⟩ := gq_none hr hk
    have hst : ∀ x, ¬ (P.ref 71).stands X.ws x := fun x => by cases P <;> exact fun h => h
    refine quant_last (P1 := P.ref 71) (P' := P.ref 71) (r' := r) hq U h sz_emp (fun w1 h1 => nm_no h1 hk) (hst _) (.inr ⟨hst _, by cases P <;> rfl⟩) Pos.ref_from ?_ rfl fun f _ => hi _
    have hb : ∃ y q', P.ref 71 = .bad y q' := by cases P <;> exact ⟨_, _, rfl⟩
    obtain ⟨y, q', hb⟩ := hb
    rw [hb] at hp ⊢
    cases r with
    | ok a q => cases hp
    | bad y' q2 => cases hp; exact .bad
set_option maxRecDepth 100000 in
set_option maxHeartbeats 4000000 in
theorem pu_not {X : Rx} {w : World} {p : Nat} {r r' : Out Fm} (h : Ps X w (.at p)) (hs : IsS X.ws p kNot) (UC0 : ∀ w5, Ps X w5 (.at (p + 1)) → Calls Tryz.prog 102 #[.pointer (some ⟨X.b, 0, none⟩)] w5 (FmRes X w5 r')) (hp : r.pos = r'.pos) (hi : ∀ f, r'.is f → r.is (fNot f)) :
    Calls Tryz.prog 102 #[.pointer (some ⟨X.b, 0, none⟩)] w (FmRes X w r) := by
  have hbw := h.lt
  have hWw := h.below.size
  have hR1 := rb_new w zF 26
  have h1 := h.alloc (.cells zF 26)
  have hB1 : Bux X.b w (w.alloc (.cells zF 26)) := Bux.of (bal w _)
  have HI := mkHid hi
  have HP := mkHid hp
  clear hi hp
  have UC := mkHid UC0
  clear UC0
  go_enter Tryz.func102, Tryz.ntmps102
  go_wp2_with (fail)
  refine (takes_yes (x := kNot) h1 hs).mono ?_
  rintro e w3 ⟨rfl, h3, hC3⟩
  have hR3 := hR1.but hC3 (by omega)
  have hU3 := hB1.trans hC3
  have hs3 := (Array.getElem?_eq_some_iff.1 hR3).1
  go_wp2_with (first
    | (go_at_call 102; refine (UC.out _ h3).mono ?_; rintro e w4 ⟨o, xs, m, bo, n1, c1, lo, ln, lc, f, rfl, hV4, h4, hC4, hf⟩; have hR4 := (hR3.but hC4 (by omega)).keep (bal w4 (.cells #[.int .i64 o, .string xs, .int .i64 m, .slice bo n1 c1, .slice lo ln lc] 26)); have hU4 := (hU3.trans hC4).trans (Bux.of (bal w4 (.cells #[.int .i64 o, .string xs, .int .i64 m, .slice bo n1 c1, .slice lo ln lc] 26))); have hs4 := hC4.size; have hF4 := mkF1 (t := 26) (RdFn.low (P' := fun k => w.heap.size < k) (fun k _ (hg : _ ≤ k) => by omega) _ _ _ _ _ _ hV4) rfl (by omega) 2 0 emp ⟨by decide, by decide, sz_emp⟩)
    | (go_at_call 32; refine (connect_at _ _ _ _ _).mono ?_; rintro e w6 ⟨rfl, hB6⟩; have h6 := (h4.alloc _).keep hB6; have hR6 := hR4.keep hB6; have hU6 := hU4.trans (Bux.of hB6); have hF6 := RdFn.keep (Hi.of hB6) _ _ _ _ _ _ hF4; obtain ⟨r0, g0⟩ := txcell hR6 0 _ rfl; obtain ⟨r1, g1⟩ := txcell hR6 1 _ rfl; obtain ⟨r2, g2⟩ := txcell hR6 2 _ rfl; obtain ⟨r3, g3⟩ := txcell hR6 3 _ rfl; obtain ⟨r4, g4⟩ := txcell hR6 4 _ rfl; have hRy := rb_five hR6 rfl (.int .i64 2) (.string emp) (.int .i64 0) (.slice none 0 0) (.slice (some ⟨w4.heap.size, 0, none⟩) 1 1); obtain ⟨k0, -⟩ := txcell hRy 0 _ rfl; obtain ⟨k1, -⟩ := txcell hRy 1 _ rfl; obtain ⟨k2, -⟩ := txcell hRy 2 _ rfl; obtain ⟨k3, -⟩ := txcell hRy 3 _ rfl; obtain ⟨k4, -⟩ := txcell hRy 4 _ rfl))
  exact bodyPost_ret (v := .agg #[.int .i64 2, .string emp, .int .i64 0, .slice none 0 0, .slice (some ⟨w4.heap.size, 0, none⟩) 1 1]) (by simp [results, Tryz.results102, go_sem, k0, k1, k2, k3, k4]) rfl ⟨_, _, _, _, _, _, _, _, _, _, rfl, RdFn.low (fun k _ (hk : w.heap.size < k) => Nat.le_of_lt hk) _ _ _ _ _ _ (RdFn.keep (Hi.st5 (fun k (hk : w.heap.size < k) => by omega) _ (.int .i64 2) (.string emp) (.int .i64 0) (.slice none 0 0) (.slice (some ⟨w4.heap.size, 0, none⟩) 1 1)) _ _ _ _ _ _ hF6), by rw [HP.out]; exact h6.st5 (by omega) hWw (.int .i64 2) (.string emp) (.int .i64 0) (.slice none 0 0) (.slice (some ⟨w4.heap.size, 0, none⟩) 1 1), hU6.st5 (Nat.le_refl _) (.int .i64 2) (.string emp) (.int .i64 0) (.slice none 0 0) (.slice (some ⟨w4.heap.size, 0, none⟩) 1 1), HI.out f hf⟩
set_option maxRecDepth 100000 in
set_option maxHeartbeats 4000000 in
theorem pu_ex {X : Rx} {w : World} {p : Nat} {r r' : Out Fm} (h : Ps X w (.at p)) (hs : IsS X.ws p kEx) (UC0 : ∀ w5, Ps X w5 (.at (p + 1)) → Calls Tryz.prog 106 #[.pointer (some ⟨X.b, 0, none⟩), .int .i64 7] w5 (FmRes X w5 r')) (hp : r.pos = r'.pos) (hi : ∀ f, r'.is f → r.is f) :
    Calls Tryz.prog 102 #[.pointer (some ⟨X.b, 0, none⟩)] w (FmRes X w r) := by
  have hbw := h.lt
  have hWw := h.below.size
  have hR1 := rb_new w zF 26
  have h1 := h.alloc (.cells zF 26)
  have hB1 : Bux X.b w (w.alloc (.cells zF 26)) := Bux.of (bal w _)
  have HI := mkHid hi
  have HP := mkHid hp
  clear hi hp
  have UC := mkHid UC0
  clear UC0
  go_enter Tryz.func102, Tryz.ntmps102
  go_wp2_with (fail)
  refine (takes_no (x := kNot) h1 (by decide) (hs.ne (by decide))).mono ?_
  rintro e v0 ⟨rfl, h20, hB20⟩
  have hR20 := hR1.keep hB20
  have hU20 := hB1.trans (Bux.of hB20)
  go_wp2_with (fail)
  refine (takes_yes (x := kEx) h20 hs).mono ?_
  rintro e w3 ⟨rfl, h3, hC3⟩
  have hR3 := hR20.but hC3 (by omega)
  have hU3 := hU20.trans hC3
  have hs3 := (Array.getElem?_eq_some_iff.1 hR3).1
  go_wp2_with (go_at_call 106; refine (UC.out _ h3).mono ?_; rintro e w4 ⟨o, xs, m, bo, n1, c1, lo, ln, lc, f, rfl, hV4, h4, hC4, hf⟩; have hR4 := hR3.but hC4 (by omega); have hU4 := hU3.trans hC4; have hs4 := hC4.size; have hF4 := RdFn.low (P' := fun k => w.heap.size < k) (fun k _ (hg : _ ≤ k) => by omega) _ _ _ _ _ _ hV4; obtain ⟨r0, g0⟩ := txcell hR4 0 _ rfl; obtain ⟨r1, g1⟩ := txcell hR4 1 _ rfl; obtain ⟨r2, g2⟩ := txcell hR4 2 _ rfl; obtain ⟨r3, g3⟩ := txcell hR4 3 _ rfl; obtain ⟨r4, g4⟩ := txcell hR4 4 _ rfl; have hRy := rb_five hR4 rfl (.int .i64 o) (.string xs) (.int .i64 m) (.slice bo n1 c1) (.slice lo ln lc); obtain ⟨k0, -⟩ := txcell hRy 0 _ rfl; obtain ⟨k1, -⟩ := txcell hRy 1 _ rfl; obtain ⟨k2, -⟩ := txcell hRy 2 _ rfl; obtain ⟨k3, -⟩ := txcell hRy 3 _ rfl; obtain ⟨k4, -⟩ := txcell hRy 4 _ rfl)
  exact bodyPost_ret (v := .agg #[.int .i64 o, .string xs, .int .i64 m, .slice bo n1 c1, .slice lo ln lc]) (by simp [results, Tryz.results102, go_sem, k0, k1, k2, k3, k4]) rfl ⟨_, _, _, _, _, _, _, _, _, _, rfl, RdFn.low (fun k _ (hk : w.heap.size < k) => Nat.le_of_lt hk) _ _ _ _ _ _ (RdFn.keep (Hi.st5 (fun k (hk : w.heap.size < k) => by omega) _ (.int .i64 o) (.string xs) (.int .i64 m) (.slice bo n1 c1) (.slice lo ln lc)) _ _ _ _ _ _ hF4), by rw [HP.out]; exact h4.st5 (by omega) hWw (.int .i64 o) (.string xs) (.int .i64 m) (.slice bo n1 c1) (.slice lo ln lc), hU4.st5 (Nat.le_refl _) (.int .i64 o) (.string xs) (.int .i64 m) (.slice bo n1 c1) (.slice lo ln lc), HI.out f hf⟩
set_option maxRecDepth 100000 in
set_option maxHeartbeats 4000000 in
theorem pu_all {X : Rx} {w : World} {p : Nat} {r r' : Out Fm} (h : Ps X w (.at p)) (hs : IsS X.ws p kAll) (UC0 : ∀ w5, Ps X w5 (.at (p + 1)) → Calls Tryz.prog 106 #[.pointer (some ⟨X.b, 0, none⟩), .int .i64 8] w5 (FmRes X w5 r')) (hp : r.pos = r'.pos) (hi : ∀ f, r'.is f → r.is f) :
    Calls Tryz.prog 102 #[.pointer (some ⟨X.b, 0, none⟩)] w (FmRes X w r) := by
  have hbw := h.lt
  have hWw := h.below.size
  have hR1 := rb_new w zF 26
  have h1 := h.alloc (.cells zF 26)
  have hB1 : Bux X.b w (w.alloc (.cells zF 26)) := Bux.of (bal w _)
  have HI := mkHid hi
  have HP := mkHid hp
  clear hi hp
  have UC := mkHid UC0
  clear UC0
  go_enter Tryz.func102, Tryz.ntmps102
  go_wp2_with (fail)
  refine (takes_no (x := kNot) h1 (by decide) (hs.ne (by decide))).mono ?_
  rintro e v0 ⟨rfl, h20, hB20⟩
  have hR20 := hR1.keep hB20
  have hU20 := hB1.trans (Bux.of hB20)
  go_wp2_with (fail)
  refine (takes_no (x := kEx) h20 (by decide) (hs.ne (by decide))).mono ?_
  rintro e v1 ⟨rfl, h21, hB21⟩
  have hR21 := hR20.keep hB21
  have hU21 := hU20.trans (Bux.of hB21)
  clear h20 hR20 hU20 hB20
  go_wp2_with (fail)
  refine (takes_yes (x := kAll) h21 hs).mono ?_
  rintro e w3 ⟨rfl, h3, hC3⟩
  have hR3 := hR21.but hC3 (by omega)
  have hU3 := hU21.trans hC3
  have hs3 := (Array.getElem?_eq_some_iff.1 hR3).1
  go_wp2_with (go_at_call 106; refine (UC.out _ h3).mono ?_; rintro e w4 ⟨o, xs, m, bo, n1, c1, lo, ln, lc, f, rfl, hV4, h4, hC4, hf⟩; have hR4 := hR3.but hC4 (by omega); have hU4 := hU3.trans hC4; have hs4 := hC4.size; have hF4 := RdFn.low (P' := fun k => w.heap.size < k) (fun k _ (hg : _ ≤ k) => by omega) _ _ _ _ _ _ hV4; obtain ⟨r0, g0⟩ := txcell hR4 0 _ rfl; obtain ⟨r1, g1⟩ := txcell hR4 1 _ rfl; obtain ⟨r2, g2⟩ := txcell hR4 2 _ rfl; obtain ⟨r3, g3⟩ := txcell hR4 3 _ rfl; obtain ⟨r4, g4⟩ := txcell hR4 4 _ rfl; have hRy := rb_five hR4 rfl (.int .i64 o) (.string xs) (.int .i64 m) (.slice bo n1 c1) (.slice lo ln lc); obtain ⟨k0, -⟩ := txcell hRy 0 _ rfl; obtain ⟨k1, -⟩ := txcell hRy 1 _ rfl; obtain ⟨k2, -⟩ := txcell hRy 2 _ rfl; obtain ⟨k3, -⟩ := txcell hRy 3 _ rfl; obtain ⟨k4, -⟩ := txcell hRy 4 _ rfl)
  exact bodyPost_ret (v := .agg #[.int .i64 o, .string xs, .int .i64 m, .slice bo n1 c1, .slice lo ln lc]) (by simp [results, Tryz.results102, go_sem, k0, k1, k2, k3, k4]) rfl ⟨_, _, _, _, _, _, _, _, _, _, rfl, RdFn.low (fun k _ (hk : w.heap.size < k) => Nat.le_of_lt hk) _ _ _ _ _ _ (RdFn.keep (Hi.st5 (fun k (hk : w.heap.size < k) => by omega) _ (.int .i64 o) (.string xs) (.int .i64 m) (.slice bo n1 c1) (.slice lo ln lc)) _ _ _ _ _ _ hF4), by rw [HP.out]; exact h4.st5 (by omega) hWw (.int .i64 o) (.string xs) (.int .i64 m) (.slice bo n1 c1) (.slice lo ln lc), hU4.st5 (Nat.le_refl _) (.int .i64 o) (.string xs) (.int .i64 m) (.slice bo n1 c1) (.slice lo ln lc), HI.out f hf⟩
set_option maxRecDepth 100000 in
set_option maxHeartbeats 4000000 in
theorem pu_brk {X : Rx} {w : World} {p : Nat} {r r' : Out Fm} (h : Ps X w (.at p)) (hs : IsS X.ws p kOpen) (UC0 : ∀ w5, Ps X w5 (.at (p + 1)) → Calls Tryz.prog 15 #[.pointer (some ⟨X.b, 0, none⟩)] w5 (FmRes X w5 r')) (hn : r'.pos.need X.ws kShut r.pos) (hp : r.pos = r.pos) (hi : ∀ f, r'.is f → r.is f) :
    Calls Tryz.prog 102 #[.pointer (some ⟨X.b, 0, none⟩)] w (FmRes X w r) := by
  have hbw := h.lt
  have hWw := h.below.size
  have hR1 := rb_new w zF 26
  have h1 := h.alloc (.cells zF 26)
  have hB1 : Bux X.b w (w.alloc (.cells zF 26)) := Bux.of (bal w _)
  have HI := mkHid hi
  have HP := mkHid hp
  clear hi hp
  have UC := mkHid UC0
  have HN := mkHid hn
  clear UC0 hn
  go_enter Tryz.func102, Tryz.ntmps102
  go_wp2_with (fail)
  refine (takes_no (x := kNot) h1 (by decide) (hs.ne (by decide))).mono ?_
  rintro e v0 ⟨rfl, h20, hB20⟩
  have hR20 := hR1.keep hB20
  have hU20 := hB1.trans (Bux.of hB20)
  go_wp2_with (fail)
  refine (takes_no (x := kEx) h20 (by decide) (hs.ne (by decide))).mono ?_
  rintro e v1 ⟨rfl, h21, hB21⟩
  have hR21 := hR20.keep hB21
  have hU21 := hU20.trans (Bux.of hB21)
  clear h20 hR20 hU20 hB20
  go_wp2_with (fail)
  refine (takes_no (x := kAll) h21 (by decide) (hs.ne (by decide))).mono ?_
  rintro e v2 ⟨rfl, h22, hB22⟩
  have hR22 := hR21.keep hB22
  have hU22 := hU21.trans (Bux.of hB22)
  clear h21 hR21 hU21 hB21
  go_wp2_with (fail)
  refine (takes_yes (x := kOpen) h22 hs).mono ?_
  rintro e w3 ⟨rfl, h3, hC3⟩
  have hR3 := hR22.but hC3 (by omega)
  have hU3 := hU22.trans hC3
  have hs3 := (Array.getElem?_eq_some_iff.1 hR3).1
  go_wp2_with (first
    | (go_at_call 15; refine (UC.out _ h3).mono ?_; rintro e w4 ⟨o, xs, m, bo, n1, c1, lo, ln, lc, f, rfl, hV4, h4, hC4, hf⟩; have hR4 := (hR3.but hC4 (by omega)).keep (bal w4 (.cells #[.int .i64 o, .string xs, .int .i64 m, .slice bo n1 c1, .slice lo ln lc] 26)); have hU4 := (hU3.trans hC4).trans (Bux.of (bal w4 (.cells #[.int .i64 o, .string xs, .int .i64 m, .slice bo n1 c1, .slice lo ln lc] 26))); have hX4 := rb_new w4 #[.int .i64 o, .string xs, .int .i64 m, .slice bo n1 c1, .slice lo ln lc] 26; have hs4 := hC4.size; have hb4 := h4.lt; have hF4 := RdFn.keep (Hi.of (bal w4 (.cells #[.int .i64 o, .string xs, .int .i64 m, .slice bo n1 c1, .slice lo ln lc] 26))) _ _ _ _ _ _ (RdFn.low (P' := fun k => w.heap.size < k) (fun k _ (hg : _ ≤ k) => by omega) _ _ _ _ _ _ hV4))
    | (go_at_call 94; refine (needs_at (x := kShut) (h4.alloc _) (by decide) HN.out).mono ?_; rintro e w6 ⟨rfl, h6, hC6⟩; have hR6 := hR4.but hC6 (by omega); have hX6 := hX4.but hC6 (by omega); have hU6 := hU4.trans hC6; have hF6 := RdFn.keep (Hi.but hC6 (fun k (hk : w.heap.size < k) => by omega)) _ _ _ _ _ _ hF4; obtain ⟨x0, -⟩ := txcell hX6 0 _ rfl; obtain ⟨x1, -⟩ := txcell hX6 1 _ rfl; obtain ⟨x2, -⟩ := txcell hX6 2 _ rfl; obtain ⟨x3, -⟩ := txcell hX6 3 _ rfl; obtain ⟨x4, -⟩ := txcell hX6 4 _ rfl; obtain ⟨r0, g0⟩ := txcell hR6 0 _ rfl; obtain ⟨r1, g1⟩ := txcell hR6 1 _ rfl; obtain ⟨r2, g2⟩ := txcell hR6 2 _ rfl; obtain ⟨r3, g3⟩ := txcell hR6 3 _ rfl; obtain ⟨r4, g4⟩ := txcell hR6 4 _ rfl; have hRy := rb_five hR6 rfl (.int .i64 o) (.string xs) (.int .i64 m) (.slice bo n1 c1) (.slice lo ln lc); obtain ⟨k0, -⟩ := txcell hRy 0 _ rfl; obtain ⟨k1, -⟩ := txcell hRy 1 _ rfl; obtain ⟨k2, -⟩ := txcell hRy 2 _ rfl; obtain ⟨k3, -⟩ := txcell hRy 3 _ rfl; obtain ⟨k4, -⟩ := txcell hRy 4 _ rfl))
  exact bodyPost_ret (v := .agg #[.int .i64 o, .string xs, .int .i64 m, .slice bo n1 c1, .slice lo ln lc]) (by simp [results, Tryz.results102, go_sem, k0, k1, k2, k3, k4]) rfl ⟨_, _, _, _, _, _, _, _, _, _, rfl, RdFn.low (fun k _ (hk : w.heap.size < k) => Nat.le_of_lt hk) _ _ _ _ _ _ (RdFn.keep (Hi.st5 (fun k (hk : w.heap.size < k) => by omega) _ (.int .i64 o) (.string xs) (.int .i64 m) (.slice bo n1 c1) (.slice lo ln lc)) _ _ _ _ _ _ hF6), by exact h6.st5 (by omega) hWw (.int .i64 o) (.string xs) (.int .i64 m) (.slice bo n1 c1) (.slice lo ln lc), hU6.st5 (Nat.le_refl _) (.int .i64 o) (.string xs) (.int .i64 m) (.slice bo n1 c1) (.slice lo ln lc), HI.out f hf⟩
set_option maxRecDepth 100000 in
set_option maxHeartbeats 4000000 in
theorem pu_tru {X : Rx} {w : World} {p : Nat} {r : Out Fm} (h : Ps X w (.at p)) (hs : IsS X.ws p kTrue) (hp : r.pos = .at (p + 1)) (hi : r.is fTrue) :
    Calls Tryz.prog 102 #[.pointer (some ⟨X.b, 0, none⟩)] w (FmRes X w r) := by
  have hbw := h.lt
  have hWw := h.below.size
  have hR1 := rb_new w zF 26
  have h1 := h.alloc (.cells zF 26)
  have hB1 : Bux X.b w (w.alloc (.cells zF 26)) := Bux.of (bal w _)
  have HI := mkHid hi
  have HP := mkHid hp
  clear hi hp
  go_enter Tryz.func102, Tryz.ntmps102
  go_wp2_with (fail)
  refine (takes_no (x := kNot) h1 (by decide) (hs.ne (by decide))).mono ?_
  rintro e v0 ⟨rfl, h20, hB20⟩
  have hR20 := hR1.keep hB20
  have hU20 := hB1.trans (Bux.of hB20)
  go_wp2_with (fail)
  refine (takes_no (x := kEx) h20 (by decide) (hs.ne (by decide))).mono ?_
  rintro e v1 ⟨rfl, h21, hB21⟩
  have hR21 := hR20.keep hB21
  have hU21 := hU20.trans (Bux.of hB21)
  clear h20 hR20 hU20 hB20
  go_wp2_with (fail)
  refine (takes_no (x := kAll) h21 (by decide) (hs.ne (by decide))).mono ?_
  rintro e v2 ⟨rfl, h22, hB22⟩
  have hR22 := hR21.keep hB22
  have hU22 := hU21.trans (Bux.of hB22)
  clear h21 hR21 hU21 hB21
  go_wp2_with (fail)
  refine (takes_no (x := kOpen) h22 (by decide) (hs.ne (by decide))).mono ?_
  rintro e v3 ⟨rfl, h23, hB23⟩
  have hR23 := hR22.keep hB23
  have hU23 := hU22.trans (Bux.of hB23)
  clear h22 hR22 hU22 hB22
  go_wp2_with (fail)
  refine (takes_yes (x := kTrue) h23 hs).mono ?_
  rintro e w3 ⟨rfl, h3, hC3⟩
  have hR3 := hR23.but hC3 (by omega)
  have hU3 := hU23.trans hC3
  have hs3 := (Array.getElem?_eq_some_iff.1 hR3).1
  obtain ⟨r0, g0⟩ := txcell hR3 0 _ rfl
  obtain ⟨r1, g1⟩ := txcell hR3 1 _ rfl
  obtain ⟨r2, g2⟩ := txcell hR3 2 _ rfl
  obtain ⟨r3, g3⟩ := txcell hR3 3 _ rfl
  obtain ⟨r4, g4⟩ := txcell hR3 4 _ rfl
  have hRy := rb_five hR3 rfl (.int .i64 0) (.string emp) (.int .i64 0) (.slice none 0 0) (.slice none 0 0)
  obtain ⟨k0, -⟩ := txcell hRy 0 _ rfl
  obtain ⟨k1, -⟩ := txcell hRy 1 _ rfl
  obtain ⟨k2, -⟩ := txcell hRy 2 _ rfl
  obtain ⟨k3, -⟩ := txcell hRy 3 _ rfl
  obtain ⟨k4, -⟩ := txcell hRy 4 _ rfl
  go_wp2
  exact bodyPost_ret (v := .agg #[.int .i64 0, .string emp, .int .i64 0, .slice none 0 0, .slice none 0 0]) (by simp [results, Tryz.results102, go_sem, k0, k1, k2, k3, k4]) rfl ⟨_, _, _, _, _, _, _, _, _, _, rfl, RdFn.low (fun k _ (hk : w.heap.size < k) => Nat.le_of_lt hk) _ _ _ _ _ _ (RdFn.keep (Hi.st5 (fun k (hk : w.heap.size < k) => by omega) _ (.int .i64 0) (.string emp) (.int .i64 0) (.slice none 0 0) (.slice none 0 0)) _ _ _ _ _ _ (leafF 0 0 emp ⟨by decide, by decide, sz_emp⟩)), by rw [HP.out]; exact h3.st5 (by omega) hWw (.int .i64 0) (.string emp) (.int .i64 0) (.slice none 0 0) (.slice none 0 0), hU3.st5 (Nat.le_refl _) (.int .i64 0) (.string emp) (.int .i64 0) (.slice none 0 0) (.slice none 0 0), HI.out⟩
set_option maxRecDepth 100000 in
set_option maxHeartbeats 4000000 in
theorem pu_fls {X : Rx} {w : World} {p : Nat} {r : Out Fm} (h : Ps X w (.at p)) (hs : IsS X.ws p kFalse) (hp : r.pos = .at (p + 1)) (hi : r.is fFalse) :
    Calls Tryz.prog 102 #[.pointer (some ⟨X.b, 0, none⟩)] w (FmRes X w r) := by
  have hbw := h.lt
  have hWw := h.below.size
  have hR1 := rb_new w zF 26
  have h1 := h.alloc (.cells zF 26)
  have hB1 : Bux X.b w (w.alloc (.cells zF 26)) := Bux.of (bal w _)
  have HI := mkHid hi
  have HP := mkHid hp
  clear hi hp
  go_enter Tryz.func102, Tryz.ntmps102
  go_wp2_with (fail)
  refine (takes_no (x := kNot) h1 (by decide) (hs.ne (by decide))).mono ?_
  rintro e v0 ⟨rfl, h20, hB20⟩
  have hR20 := hR1.keep hB20
  have hU20 := hB1.trans (Bux.of hB20)
  go_wp2_with (fail)
  refine (takes_no (x := kEx) h20 (by decide) (hs.ne (by decide))).mono ?_
  rintro e v1 ⟨rfl, h21, hB21⟩
  have hR21 := hR20.keep hB21
  have hU21 := hU20.trans (Bux.of hB21)
  clear h20 hR20 hU20 hB20
  go_wp2_with (fail)
  refine (takes_no (x := kAll) h21 (by decide) (hs.ne (by decide))).mono ?_
  rintro e v2 ⟨rfl, h22, hB22⟩
  have hR22 := hR21.keep hB22
  have hU22 := hU21.trans (Bux.of hB22)
  clear h21 hR21 hU21 hB21
  go_wp2_with (fail)
  refine (takes_no (x := kOpen) h22 (by decide) (hs.ne (by decide))).mono ?_
  rintro e v3 ⟨rfl, h23, hB23⟩
  have hR23 := hR22.keep hB23
  have hU23 := hU22.trans (Bux.of hB23)
  clear h22 hR22 hU22 hB22
  go_wp2_with (fail)
  refine (takes_no (x := kTrue) h23 (by decide) (hs.ne (by decide))).mono ?_
  rintro e v4 ⟨rfl, h24, hB24⟩
  have hR24 := hR23.keep hB24
  have hU24 := hU23.trans (Bux.of hB24)
  clear h23 hR23 hU23 hB23
  go_wp2_with (fail)
  refine (takes_yes (x := kFalse) h24 hs).mono ?_
  rintro e w3 ⟨rfl, h3, hC3⟩
  have hR3 := hR24.but hC3 (by omega)
  have hU3 := hU24.trans hC3
  have hs3 := (Array.getElem?_eq_some_iff.1 hR3).1
  obtain ⟨r0, g0⟩ := txcell hR3 0 _ rfl
  obtain ⟨r1, g1⟩ := txcell hR3 1 _ rfl
  obtain ⟨r2, g2⟩ := txcell hR3 2 _ rfl
  obtain ⟨r3, g3⟩ := txcell hR3 3 _ rfl
  obtain ⟨r4, g4⟩ := txcell hR3 4 _ rfl
  have hRy := rb_five hR3 rfl (.int .i64 1) (.string emp) (.int .i64 0) (.slice none 0 0) (.slice none 0 0)
  obtain ⟨k0, -⟩ := txcell hRy 0 _ rfl
  obtain ⟨k1, -⟩ := txcell hRy 1 _ rfl
  obtain ⟨k2, -⟩ := txcell hRy 2 _ rfl
  obtain ⟨k3, -⟩ := txcell hRy 3 _ rfl
  obtain ⟨k4, -⟩ := txcell hRy 4 _ rfl
  go_wp2
  exact bodyPost_ret (v := .agg #[.int .i64 1, .string emp, .int .i64 0, .slice none 0 0, .slice none 0 0]) (by simp [results, Tryz.results102, go_sem, k0, k1, k2, k3, k4]) rfl ⟨_, _, _, _, _, _, _, _, _, _, rfl, RdFn.low (fun k _ (hk : w.heap.size < k) => Nat.le_of_lt hk) _ _ _ _ _ _ (RdFn.keep (Hi.st5 (fun k (hk : w.heap.size < k) => by omega) _ (.int .i64 1) (.string emp) (.int .i64 0) (.slice none 0 0) (.slice none 0 0)) _ _ _ _ _ _ (leafF 1 0 emp ⟨by decide, by decide, sz_emp⟩)), by rw [HP.out]; exact h3.st5 (by omega) hWw (.int .i64 1) (.string emp) (.int .i64 0) (.slice none 0 0) (.slice none 0 0), hU3.st5 (Nat.le_refl _) (.int .i64 1) (.string emp) (.int .i64 0) (.slice none 0 0) (.slice none 0 0), HI.out⟩
set_option maxRecDepth 100000 in
set_option maxHeartbeats 4000000 in
theorem pu_atm {X : Rx} {w : World} {P : Pos} {r r' : Out Fm} (h : Ps X w P) (hno : ∀ x ∈ uns, ¬ P.stands X.ws x) (UC0 : ∀ w5, Ps X w5 P → Calls Tryz.prog 107 #[.pointer (some ⟨X.b, 0, none⟩)] w5 (FmRes X w5 r')) (hp : r.pos = r'.pos) (hi : ∀ f, r'.is f → r.is f) :
    Calls Tryz.prog 102 #[.pointer (some ⟨X.b, 0, none⟩)] w (FmRes X w r) := by
  have hbw := h.lt
  have hWw := h.below.size
  have hR1 := rb_new w zF 26
  have h1 := h.alloc (.cells zF 26)
  have hB1 : Bux X.b w (w.alloc (.cells zF 26)) := Bux.of (bal w _)
  have HI := mkHid hi
  have HP := mkHid hp
  clear hi hp
  have UC := mkHid UC0
  clear UC0
  go_enter Tryz.func102, Tryz.ntmps102
  go_wp2_with (fail)
  refine (takes_no (x := kNot) h1 (by decide) (hno _ (by simp [uns]))).mono ?_
  rintro e v0 ⟨rfl, h20, hB20⟩
  have hR20 := hR1.keep hB20
  have hU20 := hB1.trans (Bux.of hB20)
  go_wp2_with (fail)
  refine (takes_no (x := kEx) h20 (by decide) (hno _ (by simp [uns]))).mono ?_
  rintro e v1 ⟨rfl, h21, hB21⟩
  have hR21 := hR20.keep hB21
  have hU21 := hU20.trans (Bux.of hB21)
  clear h20 hR20 hU20 hB20
  go_wp2_with (fail)
  refine (takes_no (x := kAll) h21 (by decide) (hno _ (by simp [uns]))).mono ?_
  rintro e v2 ⟨rfl, h22, hB22⟩
  have hR22 := hR21.keep hB22
  have hU22 := hU21.trans (Bux.of hB22)
  clear h21 hR21 hU21 hB21
  go_wp2_with (fail)
  refine (takes_no (x := kOpen) h22 (by decide) (hno _ (by simp [uns]))).mono ?_
  rintro e v3 ⟨rfl, h23, hB23⟩
  have hR23 := hR22.keep hB23
  have hU23 := hU22.trans (Bux.of hB23)
  clear h22 hR22 hU22 hB22
  go_wp2_with (fail)
  refine (takes_no (x := kTrue) h23 (by decide) (hno _ (by simp [uns]))).mono ?_
  rintro e v4 ⟨rfl, h24, hB24⟩
  have hR24 := hR23.keep hB24
  have hU24 := hU23.trans (Bux.of hB24)
  clear h23 hR23 hU23 hB23
  go_wp2_with (fail)
  refine (takes_no (x := kFalse) h24 (by decide) (hno _ (by simp [uns]))).mono ?_
  rintro e v5 ⟨rfl, h25, hB25⟩
  have hR25 := hR24.keep hB25
  have hU25 := hU24.trans (Bux.of hB25)
  clear h24 hR24 hU24 hB24
  have h3 := h25
  have hR3 := hR25
  have hU3 := hU25
  have hs3 := (Array.getElem?_eq_some_iff.1 hR3).1
  go_wp2_with (go_at_call 107; refine (UC.out _ h3).mono ?_; rintro e w4 ⟨o, xs, m, bo, n1, c1, lo, ln, lc, f, rfl, hV4, h4, hC4, hf⟩; have hR4 := hR3.but hC4 (by omega); have hU4 := hU3.trans hC4; have hs4 := hC4.size; have hF4 := RdFn.low (P' := fun k => w.heap.size < k) (fun k _ (hg : _ ≤ k) => by omega) _ _ _ _ _ _ hV4; obtain ⟨r0, g0⟩ := txcell hR4 0 _ rfl; obtain ⟨r1, g1⟩ := txcell hR4 1 _ rfl; obtain ⟨r2, g2⟩ := txcell hR4 2 _ rfl; obtain ⟨r3, g3⟩ := txcell hR4 3 _ rfl; obtain ⟨r4, g4⟩ := txcell hR4 4 _ rfl; have hRy := rb_five hR4 rfl (.int .i64 o) (.string xs) (.int .i64 m) (.slice bo n1 c1) (.slice lo ln lc); obtain ⟨k0, -⟩ := txcell hRy 0 _ rfl; obtain ⟨k1, -⟩ := txcell hRy 1 _ rfl; obtain ⟨k2, -⟩ := txcell hRy 2 _ rfl; obtain ⟨k3, -⟩ := txcell hRy 3 _ rfl; obtain ⟨k4, -⟩ := txcell hRy 4 _ rfl)
  exact bodyPost_ret (v := .agg #[.int .i64 o, .string xs, .int .i64 m, .slice bo n1 c1, .slice lo ln lc]) (by simp [results, Tryz.results102, go_sem, k0, k1, k2, k3, k4]) rfl ⟨_, _, _, _, _, _, _, _, _, _, rfl, RdFn.low (fun k _ (hk : w.heap.size < k) => Nat.le_of_lt hk) _ _ _ _ _ _ (RdFn.keep (Hi.st5 (fun k (hk : w.heap.size < k) => by omega) _ (.int .i64 o) (.string xs) (.int .i64 m) (.slice bo n1 c1) (.slice lo ln lc)) _ _ _ _ _ _ hF4), by rw [HP.out]; exact h4.st5 (by omega) hWw (.int .i64 o) (.string xs) (.int .i64 m) (.slice bo n1 c1) (.slice lo ln lc), hU4.st5 (Nat.le_refl _) (.int .i64 o) (.string xs) (.int .i64 m) (.slice bo n1 c1) (.slice lo ln lc), HI.out f hf⟩
theorem un_step {X : Rx} {N : Nat} (A : AtC X N) (I : N < X.ws.length → UnC X (N + 1) ∧ QuC 7 X (N + 1) ∧ QuC 8 X (N + 1) ∧ IffC X (N + 1)) : UnC X N := by
  intro w P r h hP hr
  cases P with
  | bad y q =>
    cases hr
    exact pu_atm (r' := .bad y q) h (fun _ _ h => h) (fun w5 h5 => A w5 _ _ h5 trivial .bad) rfl fun _ _ => is_bad
  | «at» p =>
    have hPN : N ≤ p := hP
    have hN1 : (Pos.at (p + 1)).from (N + 1) := by show N + 1 ≤ p + 1; omega
    cases gu_of hr with
    | not hs hh =>
      obtain ⟨r', hr', hp, hi⟩ := hh
      have hlt := hs.lt
      exact pu_not h hs (fun w5 h5 => (I (by omega)).1 w5 _ r' h5 hN1 hr') hp hi
    | @qu x q hx hs hg =>
      have hlt := hs.lt
      rcases hx with ⟨rfl, rfl⟩ | ⟨rfl, rfl⟩
      · exact pu_ex (r' := r) h hs (fun w5 h5 => (I (by omega)).2.1 w5 _ r h5 hN1 hg) rfl fun _ h => h
      · exact pu_all (r' := r) h hs (fun w5 h5 => (I (by omega)).2.2.1 w5 _ r h5 hN1 hg) rfl fun _ h => h
    | br hs hh =>
      obtain ⟨r', hr', hn, hi⟩ := hh
      have hlt := hs.lt
      exact pu_brk h hs (fun w5 h5 => (I (by omega)).2.2.2 w5 _ r' h5 hN1 hr') hn rfl hi
    | tru hs he => subst he; exact pu_tru h hs rfl (is_ok rfl)
    | fls hs he => subst he; exact pu_fls h hs rfl (is_ok rfl)
    | atom hn hg => exact pu_atm (r' := r) h (fun x hx => hn x hx) (fun w5 h5 => A w5 _ r h5 hP hg) rfl fun _ h => h
/-- formulas, from every place on -/
theorem formulas_all {X : Rx} (hW : WdOk X.ws) : ∀ m N, X.ws.length + 1 ≤ N + m → UnC X N ∧ QuC 7 X N ∧ QuC 8 X N ∧ ToC X N ∧ IffC X N := by
  have key : ∀ N, (N < X.ws.length → UnC X (N + 1) ∧ QuC 7 X (N + 1) ∧ QuC 8 X (N + 1) ∧ ToC X (N + 1) ∧ IffC X (N + 1)) → UnC X N ∧ QuC 7 X N ∧ QuC 8 X N ∧ ToC X N ∧ IffC X N := by
    intro N I
    have S : SumC X N := (terms_all hW (X.ws.length + 1) N (by omega)).2.2
    have U : UnC X N := un_step (atom_step hW S) fun h => ⟨(I h).1, (I h).2.1, (I h).2.2.1, (I h).2.2.2.2⟩
    have T : ToC X N := to_step (or_step (and_step U)) fun h => (I h).2.2.2.1
    exact ⟨U, quant_step (by decide) hW U fun h => (I h).2.1, quant_step (by decide) hW U fun h => (I h).2.2.1, T, iff_step T⟩
  intro m
  induction m with
  | zero => intro N hN; exact key N fun h => absurd h (by omega)
  | succ m ih => intro N hN; exact key N fun _ => ih (N + 1) (by omega)
theorem formula_all {X : Rx} (hW : WdOk X.ws) : IffC X 0 := (formulas_all hW (X.ws.length + 1) 0 (by omega)).2.2.2.2
end Go.Proofs.YtabfhdmcljdjhaaGreatDoor.Gl
