/- The landed reader: product. -/
import Derived.Test.YtabfhdmcljdjhaaDoorPcC
import Derived.Deep.RegionWith
namespace Go.Proofs.YtabfhdmcljdjhaaDoor.Gl
open Go.RowKit
set_option linter.unusedVariables false
set_option linter.unusedSimpArgs false

/-- how far a reader may still go: for a loop's measure -/
def rdM (b : Nat) (w : World) : Nat := match w.heap[b]? with
  | some (Obj.cells vs _ _) => (match vs[0]? with
    | some (Value.slice _ l _) => l
    | _ => 0)
  | _ => 0
theorem rdM_at {X : Rx} {w : World} {p : Nat} (h : Ps X w (.at p)) : rdM X.b w = X.n - p := by
  obtain ⟨_, a, c, _, hR⟩ := h.at'
  have hR' : w.heap[X.b]? = _ := hR
  simp [rdM, hR']
theorem rdM_bad {X : Rx} {w : World} {y q : Nat} (h : Ps X w (.bad y q)) : rdM X.b w = 0 := by
  obtain ⟨_, hR⟩ := h.at'
  have hR' : w.heap[X.b]? = _ := hR
  simp [rdM, hR']
theorem rdM_lt {X : Rx} {w w' : World} {p : Nat} {P : Pos} (h : Ps X w (.at p)) (hp : p < X.ws.length) (h' : Ps X w' P) (hP : P.from (p + 1)) : rdM X.b w' < rdM X.b w := by
  have hn := h.words.len
  rw [rdM_at h]
  cases P with
  | bad y q => rw [rdM_bad h']; omega
  | «at» q =>
    rw [rdM_at h']
    have : p + 1 ≤ q := hP
    omega
/- a block written whole -/
abbrev st4 (w : World) (B : Nat) (v0 v1 v2 v3 : Value) : World := (((w.setCell ⟨B, 0, none⟩ v0).setCell ⟨B, 1, none⟩ v1).setCell ⟨B, 2, none⟩ v2).setCell ⟨B, 3, none⟩ v3
theorem Ps.st4 {X : Rx} {w : World} {P : Pos} (h : Ps X w P) {B : Nat} (hne : X.b ≠ B) (hB : X.W.heap.size ≤ B) (v0 v1 v2 v3 : Value) : Ps X (st4 w B v0 v1 v2 v3) P := (((h.other hne hB 0 v0).other hne hB 1 v1).other hne hB 2 v2).other hne hB 3 v3
theorem Bux.st4 {b B : Nat} {w w' : World} (h : Bux b w w') (hB : w.heap.size ≤ B) (v0 v1 v2 v3 : Value) : Bux b w (st4 w' B v0 v1 v2 v3) := but_new (but_new (but_new (but_new h hB 0 v0) hB 1 v1) hB 2 v2) hB 3 v3
theorem Hi.st4 {P : Nat → Prop} {B : Nat} (hB : ∀ k, P k → k ≠ B) (w : World) (v0 v1 v2 v3 : Value) : Hi P w (st4 w B v0 v1 v2 v3) := ((((Hi.refl P w).set hB 0 v0).set hB 1 v1).set hB 2 v2).set hB 3 v3
theorem Rb.st4 {w : World} {B X : Nat} {vs : Array Value} {t : TypeId} (h : Rb w B vs t) (hne : B ≠ X) (v0 v1 v2 v3 : Value) : Rb (st4 w X v0 v1 v2 v3) B vs t := (((h.other hne 0 v0).other hne 1 v1).other hne 2 v2).other hne 3 v3
abbrev st5 (w : World) (B : Nat) (v0 v1 v2 v3 v4 : Value) : World := (st4 w B v0 v1 v2 v3).setCell ⟨B, 4, none⟩ v4
theorem Ps.st5 {X : Rx} {w : World} {P : Pos} (h : Ps X w P) {B : Nat} (hne : X.b ≠ B) (hB : X.W.heap.size ≤ B) (v0 v1 v2 v3 v4 : Value) : Ps X (st5 w B v0 v1 v2 v3 v4) P := (h.st4 hne hB v0 v1 v2 v3).other hne hB 4 v4
theorem Bux.st5 {b B : Nat} {w w' : World} (h : Bux b w w') (hB : w.heap.size ≤ B) (v0 v1 v2 v3 v4 : Value) : Bux b w (st5 w' B v0 v1 v2 v3 v4) := but_new (h.st4 hB v0 v1 v2 v3) hB 4 v4
theorem Hi.st5 {P : Nat → Prop} {B : Nat} (hB : ∀ k, P k → k ≠ B) (w : World) (v0 v1 v2 v3 v4 : Value) : Hi P w (st5 w B v0 v1 v2 v3 v4) := (Hi.st4 hB w v0 v1 v2 v3).set hB 4 v4
theorem Rb.st5 {w : World} {B X : Nat} {vs : Array Value} {t : TypeId} (h : Rb w B vs t) (hne : B ≠ X) (v0 v1 v2 v3 v4 : Value) : Rb (st5 w X v0 v1 v2 v3 v4) B vs t := (h.st4 hne v0 v1 v2 v3).other hne 4 v4
/-- what a part of a term answers -/
def TmRes (X : Rx) (w : World) (r : Out Tm) (e : Ending) (w' : World) : Prop :=
  ∃ o m xs ao n c t, e = .returned (.agg #[.int .i64 o, .int .i64 m, .string xs, .slice ao n c]) ∧ RdTn (Ge w.heap.size) w' t (.int .i64 o) (.int .i64 m) (.string xs) (.slice ao n c) ∧ Ps X w' r.pos ∧ Bux X.b w w' ∧ r.is t
/- the contracts, from N on -/
def FacC (X : Rx) (N : Nat) : Prop := ∀ w P r, Ps X w P → P.from N → GT X.ws .fac P r → Calls Tryd.prog 79 #[.pointer (some ⟨X.b, 0, none⟩)] w (TmRes X w r)
def ProC (X : Rx) (N : Nat) : Prop := ∀ w P r, Ps X w P → P.from N → GT X.ws .prod P r → Calls Tryd.prog 76 #[.pointer (some ⟨X.b, 0, none⟩)] w (TmRes X w r)
def SumC (X : Rx) (N : Nat) : Prop := ∀ w P r, Ps X w P → P.from N → GT X.ws .sum P r → Calls Tryd.prog 69 #[.pointer (some ⟨X.b, 0, none⟩)] w (TmRes X w r)
set_option maxRecDepth 100000 in
set_option maxHeartbeats 4000000 in
theorem product_step {X : Rx} {N : Nat} (F : FacC X N) : ProC X N := by
  intro w P r h hP hr
  obtain ⟨r0, hr0, hl⟩ := gt_prod hr
  have hbw := h.lt
  have hWw := h.below.size
  have hR1 := rb_new w zT 46
  have h1 := h.alloc (.cells zT 46)
  have hB1 : Bux X.b w (w.alloc (.cells zT 46)) := Bux.of (bal w _)
  have FC := mkHid (F _ _ _ h1 hP hr0)
  have hf0 := hr0.from hP
  have HL := mkHid hl
  have FF := mkHid F
  clear hr hl F hr0
  go_enter Tryd.func76, Tryd.ntmps76
  go_wp2_with (go_at_call 79; refine (FC.out).mono ?_; rintro e w2 ⟨o, m, xs, lo, ln, lc, x, rfl, hV2, h2, hC2, hx⟩; have hR2 := hR1.but hC2 (by omega); have hs1 : w.heap.size < w2.heap.size := (Array.getElem?_eq_some_iff.1 hR2).1)
  have hX3 := rb_new w2 #[.int .i64 o, .int .i64 m, .string xs, .slice lo ln lc] 46
  have h3 := h2.alloc (.cells #[.int .i64 o, .int .i64 m, .string xs, .slice lo ln lc] 46)
  have hR3 := hR2.keep (bal w2 (.cells #[.int .i64 o, .int .i64 m, .string xs, .slice lo ln lc] 46))
  have hU3 : Bux X.b w (w2.alloc (.cells #[.int .i64 o, .int .i64 m, .string xs, .slice lo ln lc] 46)) := (hB1.trans hC2).trans (Bux.of (bal w2 _))
  have hV3 : RdTn (fun k => w.heap.size < k ∧ k ≠ w2.heap.size) (w2.alloc (.cells #[.int .i64 o, .int .i64 m, .string xs, .slice lo ln lc] 46)) x (.int .i64 o) (.int .i64 m) (.string xs) (.slice lo ln lc) := by
    refine RdTn.keep (Hi.of (bal w2 _)) _ _ _ _ _ (RdTn.low (fun k hk (hg : _ ≤ k) => ?_) _ _ _ _ _ hV2)
    simp only [World.size_alloc] at hg
    exact ⟨by omega, by omega⟩
  have hlx := HL.out x hx
  go_loopw [] (fun wr => ∃ o m xs lo ln lc x P1, Rb wr w2.heap.size #[.int .i64 o, .int .i64 m, .string xs, .slice lo ln lc] 46 ∧ RdTn (fun k => w.heap.size < k ∧ k ≠ w2.heap.size) wr x (.int .i64 o) (.int .i64 m) (.string xs) (.slice lo ln lc) ∧ Ps X wr P1 ∧ P1.from N ∧ GT X.ws (.prodL x) P1 r ∧ Bux X.b w wr ∧ Rb wr w.heap.size zT 46) (fun wr => rdM X.b wr)
  case atStart => exact ⟨o, m, xs, lo, ln, lc, x, r0.pos, hX3, hV3, h3, hf0, hlx, hU3, hR3⟩
  case round =>
    have hbX : X.b ≠ w2.heap.size := by have := h2.lt; omega
    have hRX : w.heap.size < w2.heap.size := by omega
    have hWX : X.W.heap.size ≤ w2.heap.size := by omega
    clear hX3 h3 hR3 hU3 hV3 h2 hC2 hR2 h1 hR1 hB1 hV2 hx hlx HL FC hf0
    obtain ⟨o, m, xs, lo, ln, lc, x, P1, hX, hV, hS, hP1, hG, hU, hR⟩ := hrel
    have hXlt := (Array.getElem?_eq_some_iff.1 hX).1
    by_cases hst : P1.stands X.ws kStar
    · cases P1 with
      | bad y q => exact hst.elim
      | «at» p =>
        obtain ⟨r', hr', hl'⟩ := gt_prodL_yes hG hst
        have hlt := IsS.lt hst
        have hf' := hr'.from (N := p + 1) (Nat.le_refl _)
        have TC := mkHid (takes_yes (x := kStar) hS hst)
        have FC := mkHid (fun w5 h5 => FF.out w5 (.at (p + 1)) r' h5 (Nat.le_succ_of_le hP1) hr')
        have HL := mkHid hl'
        have hf2 := mkHid (hr'.from (N := N) (Nat.le_succ_of_le hP1))
        clear hr' hl' hG FF
        go_wp2_with (go_at_call 23; refine (TC.out).mono ?_; rintro e w4 ⟨rfl, h4, hC4⟩; have hX4 := hX.but hC4 (fun e => hbX e.symm); have hR4 := hR.but hC4 (by omega); have hU4 := hU.trans hC4; have hV4 := RdTn.keep (Hi.but hC4 (fun k hk => by omega)) _ _ _ _ _ hV; obtain ⟨x0, -⟩ := txcell hX4 0 _ rfl; obtain ⟨x1, -⟩ := txcell hX4 1 _ rfl; obtain ⟨x2, -⟩ := txcell hX4 2 _ rfl; obtain ⟨x3, -⟩ := txcell hX4 3 _ rfl)
        go_region_with (first
          | (go_at_call 79
             refine (FC.out _ ?_).mono ?_
             exact h4.drew
             rintro e w6 ⟨o2, m2, xs2, lo2, ln2, lc2, y, rfl, hY5, h6, hC6, hy⟩
             have hX6 := Rb.but (w := w4.drew) hX4 hC6 (fun e => hbX e.symm)
             have hR6 := Rb.but (w := w4.drew) hR4 hC6 (by omega)
             have hU6 := (but_drew hU4).trans hC6
             have hs6 : w2.heap.size < w4.heap.size := (Array.getElem?_eq_some_iff.1 hX4).1
             have hs7 : w4.heap.size ≤ w6.heap.size := hC6.size
             have hV6 := RdTn.keep (W := w4.drew) (Hi.but hC6 (fun k hk => by omega)) _ _ _ _ _ (RdTn.keep (Hi.of (Below.refl _ w4).drew) _ _ _ _ _ hV4)
             have hY6 : RdTn (fun k => w.heap.size < k ∧ k ≠ w2.heap.size) w6 y (.int .i64 o2) (.int .i64 m2) (.string xs2) (.slice lo2 ln2 lc2) := RdTn.low (fun k _ (hk : w4.heap.size ≤ k) => ⟨by omega, by omega⟩) _ _ _ _ _ hY5
             obtain ⟨z0, -⟩ := txcell hX6 0 _ rfl
             obtain ⟨z1, -⟩ := txcell hX6 1 _ rfl
             obtain ⟨z2, -⟩ := txcell hX6 2 _ rfl
             obtain ⟨z3, -⟩ := txcell hX6 3 _ rfl)
          | (go_at_call 77
             refine (combine_at _ _ _ _ _).mono ?_
             rintro e w7 ⟨rfl, hB7⟩
             have hX7 := (hX6.keep (bal w6 _)).keep hB7
             have hR7 := (hR6.keep (bal w6 _)).keep hB7
             have h7 := (h6.alloc _).keep hB7
             have hU7 := (hU6.trans (Bux.of (bal w6 _))).trans (Bux.of hB7)
             have hV7 := RdTn.keep (Hi.of hB7) _ _ _ _ _ (mk2 hV6 hY6 rfl ⟨by omega, by omega⟩ 5 0 emp ⟨by decide, by decide, sz_emp⟩)
             have hX8 := rb_four hX7 rfl (.int .i64 5) (.int .i64 0) (.string emp) (.slice (some ⟨w6.heap.size, 0, none⟩) 2 2)
             have h8 := h7.st4 hbX hWX (.int .i64 5) (.int .i64 0) (.string emp) (.slice (some ⟨w6.heap.size, 0, none⟩) 2 2)
             have hU8 := hU7.st4 (Nat.le_of_lt hRX) (.int .i64 5) (.int .i64 0) (.string emp) (.slice (some ⟨w6.heap.size, 0, none⟩) 2 2)
             have hV8 := RdTn.keep (Hi.st4 (fun k (hk : w.heap.size < k ∧ k ≠ w2.heap.size) => hk.2) w7 (.int .i64 5) (.int .i64 0) (.string emp) (.slice (some ⟨w6.heap.size, 0, none⟩) 2 2)) _ _ _ _ _ hV7
             have hR8 := hR7.st4 (X := w2.heap.size) (by omega) (.int .i64 5) (.int .i64 0) (.string emp) (.slice (some ⟨w6.heap.size, 0, none⟩) 2 2)
             obtain ⟨u0, v0⟩ := txcell hX7 0 _ rfl
             obtain ⟨u1, v1⟩ := txcell hX7 1 _ rfl
             obtain ⟨u2, v2⟩ := txcell hX7 2 _ rfl
             obtain ⟨u3, v3⟩ := txcell hX7 3 _ rfl))
        all_goals
          go_roundw
          case rel => exact ⟨_, _, _, _, _, _, _, ⟨5, 0, emp, some ⟨w6.heap.size, 0, none⟩, 2, 2, tMul x y, r'.pos, hX8, hV8, h8, hf2.out, HL.out y hy, hU8, hR8⟩, rfl⟩
          case measure => exact rdM_lt hS hlt h8 hf'
    · obtain ⟨hq, hi⟩ := gt_prodL_no hG hst
      have TC := mkHid (takes_no (x := kStar) hS (by decide) hst)
      clear FF hG hst
      go_wp2_with (go_at_call 23; refine (TC.out).mono ?_; rintro e w4 ⟨rfl, h4, hB4⟩; have hX4 := hX.keep hB4; have hR4 := hR.keep hB4; have hU4 := hU.trans (Bux.of hB4); have hV4 := RdTn.keep (Hi.of hB4) _ _ _ _ _ hV; obtain ⟨x0, -⟩ := txcell hX4 0 _ rfl; obtain ⟨x1, -⟩ := txcell hX4 1 _ rfl; obtain ⟨x2, -⟩ := txcell hX4 2 _ rfl; obtain ⟨x3, -⟩ := txcell hX4 3 _ rfl; obtain ⟨r0, g0⟩ := txcell hR4 0 _ rfl; obtain ⟨r1, g1⟩ := txcell hR4 1 _ rfl; obtain ⟨r2, g2⟩ := txcell hR4 2 _ rfl; obtain ⟨r3, g3⟩ := txcell hR4 3 _ rfl; have hRy := rb_four hR4 rfl (.int .i64 o) (.int .i64 m) (.string xs) (.slice lo ln lc); obtain ⟨k0, -⟩ := txcell hRy 0 _ rfl; obtain ⟨k1, -⟩ := txcell hRy 1 _ rfl; obtain ⟨k2, -⟩ := txcell hRy 2 _ rfl; obtain ⟨k3, -⟩ := txcell hRy 3 _ rfl)
      exact bodyPost_ret (v := .agg #[.int .i64 o, .int .i64 m, .string xs, .slice lo ln lc]) (by simp [results, Tryd.results76, go_sem, k0, k1, k2, k3]) rfl ⟨o, m, xs, lo, ln, lc, x, rfl, RdTn.low (fun k _ (hk : w.heap.size < k ∧ k ≠ w2.heap.size) => Nat.le_of_lt hk.1) _ _ _ _ _ (RdTn.keep (Hi.st4 (fun k (hk : w.heap.size < k ∧ k ≠ w2.heap.size) => by omega) w4 (.int .i64 o) (.int .i64 m) (.string xs) (.slice lo ln lc)) _ _ _ _ _ hV4), by rw [hq]; exact h4.st4 (by omega) hWw (.int .i64 o) (.int .i64 m) (.string xs) (.slice lo ln lc), hU4.st4 (Nat.le_refl _) (.int .i64 o) (.int .i64 m) (.string xs) (.slice lo ln lc), hi⟩
end Go.Proofs.YtabfhdmcljdjhaaDoor.Gl
