/- The document's reader: level. -/
import Derived.Test.YtabfhdmcljdjhaaGreatDoorDcW
namespace Go.Proofs.YtabfhdmcljdjhaaGreatDoor.Gl
open Go.RowKit
set_option linter.unusedVariables false
set_option linter.unusedSimpArgs false

theorem own_one (W : World) (base : Nat) (e : FV) (hb : base ≤ W.heap.size) : (W.alloc (.cells e.arr 26)).ownsRow base 26 5 (.slice (some ⟨W.heap.size, 0, none⟩) 1 1) 1 (cellsF [e]) :=
  ⟨rfl, .inr ⟨W.heap.size, 1, e.arr, rfl, hb, heap_alloc_new W _, Nat.le_refl _, by decide, rfl, rfl⟩⟩
theorem rb_el {w : World} {g : Nat} {e : FV} {o : Nat} (h : ∀ r, r < 5 → w.cell? ⟨g, o + r, none⟩ = e.cells[r]?) : w.cell? ⟨g, o, none⟩ = some (.int .i64 e.o) ∧ w.cell? ⟨g, o + 1, none⟩ = some (.string e.x) ∧ w.cell? ⟨g, o + 2, none⟩ = some (.int .i64 e.m) ∧ w.cell? ⟨g, o + 3, none⟩ = some (.slice e.bo e.n1 e.c1) ∧ w.cell? ⟨g, o + 4, none⟩ = some (.slice e.ao e.n e.c) :=
  ⟨h 0 (by omega), h 1 (by omega), h 2 (by omega), h 3 (by omega), h 4 (by omega)⟩
set_option maxRecDepth 100000 in
set_option maxHeartbeats 8000000 in
theorem dlev_one {X : Rx} {N : Nat} (F : DLev 2 X N) : DLev 1 X N := by
  intro w P r h hP hr
  show Calls Tryz.prog 18 #[.pointer (some ⟨X.b, 0, none⟩), .int .i64 1] w (DFm X w r)
  obtain ⟨r0, hr0, hl⟩ := lv_start (n := 1) (by omega) hr
  have hbw := h.lt
  have hWw := h.below.size
  have hR1 := rb_new w zF 26
  have h1 := h.alloc (.cells zF 26)
  have hB1 : Bux X.b w (w.alloc (.cells zF 26)) := Bux.of (bal w _)
  have FL : ∀ w P r, Ds X w P → P.from N → GF X.ws (.lev 2) P r → Calls Tryz.prog 18 #[.pointer (some ⟨X.b, 0, none⟩), .int .i64 2] w (DFm X w r) := F
  have FC := mkHid (FL _ _ _ h1 hP hr0)
  have hf0 := hr0.from hP
  have HL := mkHid hl
  have FF := mkHid FL
  have JC : Hid (∀ w5, Calls Tryz.prog 39 #[.int .i64 1] w5 fun e w' => e = .returned (.tuple #[.string kTo, .int .i64 5]) ∧ w5 = w') := fun w5 => djoint_at 1 (by omega) w5
  clear hr hl F FL hr0
  go_enter Tryz.func18, Tryz.ntmps18
  go_wp2_with (first
    | (go_at_call 39; refine (JC.out _).mono ?_; rintro e w2 ⟨rfl, rfl⟩)
    | (go_at_call 18; refine (FC.out).mono ?_; rintro e w2 ⟨o, xs, m, bo, k1, c1, ao, k2, c2, f0, rfl, hV2, h2, hC2, hf⟩))
  have hR2 := hR1.but hC2 (by omega)
  have hs1 : w.heap.size < w2.heap.size := (Array.getElem?_eq_some_iff.1 hR2).1
  have hO3 := own_one w2 (w.heap.size + 1) ⟨o, xs, m, bo, k1, c1, ao, k2, c2⟩ hs1
  have h3 := h2.alloc (.cells (FV.mk o xs m bo k1 c1 ao k2 c2).arr 26)
  have hR3 := hR2.keep (bal w2 (.cells (FV.mk o xs m bo k1 c1 ao k2 c2).arr 26))
  have hU3 : Bux X.b w (w2.alloc (.cells (FV.mk o xs m bo k1 c1 ao k2 c2).arr 26)) := (hB1.trans hC2).trans (Bux.of (bal w2 _))
  have hs2 := hC2.size
  rw [World.size_alloc] at hs2
  have hV3 : FVs (fun k => w.heap.size < k ∧ k ≠ w2.heap.size) (w2.alloc (.cells (FV.mk o xs m bo k1 c1 ao k2 c2).arr 26)) [f0] [FV.mk o xs m bo k1 c1 ao k2 c2] :=
    (FVs.one (f := f0) (e := FV.mk o xs m bo k1 c1 ao k2 c2) (hV2.low (P' := fun k => w.heap.size < k ∧ k ≠ w2.heap.size) (fun k hk (hg : _ ≤ k) => ⟨by rw [World.size_alloc] at hg; omega, by rw [World.size_alloc] at hg; omega⟩))).keep (Hi.of (bal w2 _))
  have hlx := HL.out f0 hf
  go_loopw [7] (fun s wr => ∃ (f : Fm) (l : List Fm) (E : List FV) (P1 : Pos) (q cap : Nat), s = .slice (some ⟨q, 0, none⟩) (l.length + 1) cap ∧ wr.ownsRow (w.heap.size + 1) 26 5 (.slice (some ⟨q, 0, none⟩) (l.length + 1) cap) (l.length + 1) (cellsF E) ∧ FVs (fun k => w.heap.size < k ∧ k ≠ q) wr (f :: l) E ∧ Ds X wr P1 ∧ P1.from N ∧ Lv X.ws 1 f l P1 r ∧ Bux X.b w wr ∧ Rb wr w.heap.size zF 26 ∧ l.length ≤ 4096 ∧ (∀ p, P1 = .at p → l.length ≤ p)) (fun _ wr => dsM X.n X.b wr)
  case atStart => exact ⟨f0, [], _, r0.pos, w2.heap.size, 1, rfl, hO3, hV3, h3, hf0, hlx, hU3, hR3, Nat.zero_le _, fun _ _ => Nat.zero_le _⟩
  case round =>
    clear hO3 h3 hR3 hU3 hV3 h2 hC2 hR2 h1 hR1 hB1 hV2 hf hlx HL FC hf0 hs1 hs2
    obtain ⟨f, l, E, P1, q, cap, rfl, hO, hV, hS, hP1, hL, hU, hR, hln, hlp⟩ := hrel
    have hlen : Hid (l.length + 1 = E.length) := hV.len
    have hsz := (Array.getElem?_eq_some_iff.1 hR).1
    have hq0 := hO.lt q rfl
    by_cases hst : P1.stands X.ws (kTo)
    · cases P1 with
      | bad y q => exact hst.elim
      | «at» p =>
        obtain ⟨r', hr', hl'⟩ := lv_yes hL hst
        have hlt := IsS.lt hst
        have hf' := hr'.from (N := p + 1) (Nat.le_refl _)
        have FC := mkHid (fun w5 h5 => FF.out w5 (.at (p + 1)) r' h5 (Nat.le_succ_of_le hP1) hr')
        have HL := mkHid hl'
        have hf2 := mkHid (hr'.from (N := N) (Nat.le_succ_of_le hP1))
        have hf3 := mkHid hf'
        have hsm := hS.small
        have hlp' := hlp p rfl
        clear hr' hl' hL FF hlp hf'
        go_wp2_with (fail)
        refine (dis_yes (x := kTo) hS hst).mono ?_
        rintro e w3 ⟨rfl, hB3⟩
        have hS3 := hS.keep hB3
        obtain ⟨t1, f1⟩ := txcell hS3.at'.2 1 _ rfl
        go_wp2_with (fail)
        obtain ⟨h4, hC4⟩ := hS3.next hlt
        clear t1 f1
        have hR4 := (hR.keep hB3).but hC4 (by omega)
        have hU4 := (hU.trans (Bux.of hB3)).trans hC4
        have hO4 : (w3.setCell ⟨X.b, 1, none⟩ (.int .i64 ((p : Int) + 1))).ownsRow (w.heap.size + 1) 26 5 (.slice (some ⟨q, 0, none⟩) (l.length + 1) cap) (l.length + 1) (cellsF E) := (own_keep hO hB3).kept (row := some X.b) ⟨hC4.os, hC4.tape, hC4.output, hC4.size, fun k hk hne => hC4.block k hk (fun e => hne (by rw [e]))⟩ (.inr fun e => by simp only [Value.ownBlock, Option.some.injEq] at e; omega)
        have hV4 := (hV.keep (Hi.of hB3)).keep (Hi.but hC4 (fun k hk => by omega))
        clear hC4
        generalize w3.setCell ⟨X.b, 1, none⟩ (.int .i64 ((p : Int) + 1)) = w4 at h4 hR4 hU4 hO4 hV4 ⊢
        refine (FC.out _ h4).mono ?_
        rintro e w5 ⟨o, xs, m, bo, k1, c1, ao, k2, c2, g, rfl, hV5, h5, hC5, hg⟩
        have hO5 := hO4.kept (row := some X.b) ⟨hC5.os, hC5.tape, hC5.output, hC5.size, fun k hk hne => hC5.block k hk (fun e => hne (by rw [e]))⟩ (.inr fun e => by simp only [Value.ownBlock, Option.some.injEq] at e; omega)
        have hs4 := (Array.getElem?_eq_some_iff.1 hR4).1
        have hs5 := hC5.size
        have hq4 := hO4.lt q rfl
        have hV6 := ((hV4.keep (Hi.but hC5 (fun k hk => by omega))).snoc (f := g) (e := ⟨o, xs, m, bo, k1, c1, ao, k2, c2⟩) (hV5.low (fun k hk (hg : _ ≤ k) => ⟨by omega, by omega⟩))).keep (Hi.of (bal w5 (.cells (FV.mk o xs m bo k1 c1 ao k2 c2).arr 26)))
        have hO6 := own_keep hO5 (bal w5 (.cells (FV.mk o xs m bo k1 c1 ao k2 c2).arr 26))
        have hX6 := rb_new w5 (FV.mk o xs m bo k1 c1 ao k2 c2).arr 26
        have hR6 := (hR4.but hC5 (by omega)).keep (bal w5 (.cells (FV.mk o xs m bo k1 c1 ao k2 c2).arr 26))
        have hU6 := (hU4.trans hC5).trans (Bux.of (bal w5 (.cells (FV.mk o xs m bo k1 c1 ao k2 c2).arr 26)))
        have h6 := h5.alloc (.cells (FV.mk o xs m bo k1 c1 ao k2 c2).arr 26)
        have hs6 : w.heap.size + 1 ≤ (w5.alloc (.cells (FV.mk o xs m bo k1 c1 ao k2 c2).arr 26)).heap.size := by rw [World.size_alloc]; omega
        go_wp2_with (at_builtin; refine wp_pushF _ (w.heap.size + 1) rfl (.tmp 36) (.tmp 41) rfl _ (l.length + 1) E rfl w5.heap.size (FV.mk o xs m bo k1 c1 ao k2 c2) rfl hO6 hX6 hs6 (by omega) ?_; intro v' w7 hO7 hK7 hq7)
        have hlx := HL.out g hg
        have hlE : (E ++ [FV.mk o xs m bo k1 c1 ao k2 c2]).length = l.length + 1 + 1 := by rw [List.length_append, List.length_singleton, ← hlen.out]
        have hq8 : ∀ k, v'.ownBlock = some k → some q = some k ∨ (w5.alloc (.cells (FV.mk o xs m bo k1 c1 ao k2 c2).arr 26)).heap.size ≤ k := hq7
        clear hq7
        obtain ⟨q', cap', rfl, _⟩ := ownsF_cell hO7 hlE 0 (by omega)
        have hs7 : ∀ k, k = q' → k = q ∨ (w5.alloc (.cells (FV.mk o xs m bo k1 c1 ao k2 c2).arr 26)).heap.size ≤ k := fun k e => by
          rcases hq8 k (by rw [e]; rfl) with h | h
          · simp only [Option.some.injEq] at h; exact .inl h.symm
          · exact .inr h
        have hK : KpB (some q) (w5.alloc (.cells (FV.mk o xs m bo k1 c1 ao k2 c2).arr 26)) w7 := hK7
        have hE7 : (l ++ [g]).length + 1 = l.length + 1 + 1 := by rw [List.length_append, List.length_singleton]
        go_roundw
        case rel =>
          refine ⟨f, l ++ [g], _, r'.pos, q', cap', by rw [hE7], by rw [hE7]; exact hO7, ?_, h6.kp hK (fun k hk => by simp only [Option.some.injEq] at hk; omega), hf2.out, hlx, hU6.kp hK (fun k hk => by simp only [Option.some.injEq] at hk; omega), hR6.kp hK (fun e => by simp only [Option.some.injEq] at e; omega), ?_, ?_⟩
          · exact ((hV6.low (P' := fun k => (w.heap.size < k ∧ k ≠ q) ∧ k ≠ q') (fun k hk hp => ⟨hp, fun e => by
              rcases hs7 k e with h1 | h1
              · exact hp.2 h1
              · omega⟩)).keep (Hi.kp hK (fun k hk e => hk.1.2 (by simpa using e)))).low (fun k _ hk => ⟨hk.1.1, hk.2⟩)
          · rw [List.length_append, List.length_singleton]; have := hS.words.len; have := hS.words.small; omega
          · intro p' e
            rw [List.length_append, List.length_singleton]
            have := hf3.out
            rw [e] at this
            have : p + 1 ≤ p' := this
            omega
        case measure => exact dsM_lt hS hlt (h6.kp hK (fun k hk => by simp only [Option.some.injEq] at hk; omega)) hf3.out
    · obtain ⟨hpos, his⟩ := lv_no hL hst
      have hFo : Hid (r.is (foR 5 (f :: l))) := by have := his; rw [fold_of, if_pos rfl] at this; exact this
      have HP := mkHid hpos
      clear his hL FF hpos
      go_wp2_with (fail)
      refine (dis_no (x := kTo) hS hst).mono ?_
      rintro e w3 ⟨rfl, hB3⟩
      have hS3 := hS.keep hB3
      have hR3 := hR.keep hB3
      have hU3 := hU.trans (Bux.of hB3)
      have hO3 := own_keep hO hB3
      have hV3 := hV.keep (Hi.of hB3)
      have hq3 := (hO3.lt q rfl).2
      have hR3l := (Array.getElem?_eq_some_iff.1 hR3).1
      have hb3 := hS3.lt
      obtain ⟨g, cap2, hv, hcap, hcx, hg1, hg2, hcell⟩ := ownsF_cell hO3 hlen.out.symm l.length (by omega)
      obtain ⟨rfl, rfl⟩ : q = g ∧ cap = cap2 := by simpa using hv
      clear hv hg1 hg2
      obtain ⟨x0, x1, x2, x3, x4⟩ := rb_el hcell
      skip
      clear hcell
      have hX4 := rb_new w3 (eget E l.length).arr 26
      have hS4 := hS3.alloc (.cells (eget E l.length).arr 26)
      have hR4 := hR3.keep (bal w3 (.cells (eget E l.length).arr 26))
      have hU4 := hU3.trans (Bux.of (bal w3 (.cells (eget E l.length).arr 26)))
      have hO4 := own_keep hO3 (bal w3 (.cells (eget E l.length).arr 26))
      have hV4 := (hV3.low (P' := fun k => w.heap.size < k ∧ k ≠ w3.heap.size) (fun k hk hp => ⟨hp.1, by omega⟩)).keep (Hi.of (bal w3 (.cells (eget E l.length).arr 26)))
      have hE4 := hV4.each l.length (by rw [List.length_cons]; omega)
      have hs4 : (w3.alloc (.cells (eget E l.length).arr 26)).heap.size = w3.heap.size + 1 := World.size_alloc ..
      clear hS hR hU hO hV hS3 hR3 hU3 hO3 hV3 hB3 hlp hst hP1
      go_wp2
      generalize hw4 : w3.alloc (.cells (eget E l.length).arr 26) = w4 at hX4 hS4 hR4 hU4 hO4 hV4 hE4 hs4
      go_loopw [9] (fun s wr => ∃ (k : Nat) (e : FV) (i : Int), k ≤ l.length ∧ s = .int .i64 i ∧ i = (k : Int) - 1 ∧ FV.rd (fun k => w.heap.size < k ∧ k ≠ w3.heap.size) wr (foR 5 ((f :: l).drop k)) e ∧ Rb wr w3.heap.size e.arr 26 ∧ KpB (some w3.heap.size) w4 wr) (fun s _ => (intOf s + 1).toNat)
      case atStart =>
        subst hw4
        exact ⟨l.length, eget E l.length, _, by omega, rfl, by go_num, by rw [foR_last 5 (f :: l) l.length rfl]; exact hE4, hX4, KpB.refl _ _⟩
      case round =>
        clear hE4 hX4 hw4 x0 x1 x2 x3 x4
        obtain ⟨w9, hw9⟩ : ∃ w9, w9 = wr := ⟨_, rfl⟩
        subst hw9
        obtain ⟨k, e, i, hk, rfl, hi, hE, hX, hK⟩ := hrel
        have hO9 := hO4.kept hK (.inr fun e => by simp only [Value.ownBlock, Option.some.injEq] at e; omega)
        have hS9 := hS4.kp hK (fun k hk => by simp only [Option.some.injEq] at hk; omega)
        have hR9 := hR4.kp hK (fun e => by simp only [Option.some.injEq] at e; omega)
        have hU9 := hU4.kp hK (fun k hk => by simp only [Option.some.injEq] at hk; omega)
        have hV9 := hV4.keep (Hi.kp hK (fun k (hk : w.heap.size < k ∧ k ≠ w3.heap.size) e => hk.2 (by simpa using e)))
        have hBl := (Array.getElem?_eq_some_iff.1 hX).1
        by_cases hk0 : 0 < k
        · obtain ⟨j, rfl⟩ : ∃ j, k = j + 1 := ⟨k - 1, by omega⟩
          obtain rfl : i = (j : Int) := by omega
          clear hi
          have hOj := hO9
          obtain ⟨g, cap2, hv, hcap2, hcx2, hg1, hg2, hcell⟩ := ownsF_cell hOj hlen.out.symm j (by omega)
          obtain ⟨rfl, rfl⟩ : q = g ∧ cap = cap2 := by simpa using hv
          clear hv hg1 hg2
          obtain ⟨y0, y1, y2, y3, y4⟩ := rb_el hcell
          clear hcell
          obtain ⟨z0, -⟩ := txcell hX 0 _ rfl
          obtain ⟨z1, -⟩ := txcell hX 1 _ rfl
          obtain ⟨z2, -⟩ := txcell hX 2 _ rfl
          obtain ⟨z3, -⟩ := txcell hX 3 _ rfl
          obtain ⟨z4, -⟩ := txcell hX 4 _ rfl
          have hEj := mkHid (hV9.each j (by rw [List.length_cons]; omega))
          have hE' := mkHid hE
          have PC := mkHid (fun w5 => dpair_at 5 (eget E j) e w5)
          clear hE hV9 hOj
          go_wp2
          go_region_with (go_at_call 41
                          refine (PC.out _).mono ?_
                          rintro e5 w5 ⟨g5, rfl, hg5, hG5, hB5⟩
                          have hs5 : w9.heap.size ≤ w5.heap.size := hB5.size
                          have hX5 := Rb.keep (w := w9.drew) hX hB5
                          have hK5 : KpB (some w3.heap.size) w4 w5 := hK.trans ((KpB.of (r := some w3.heap.size) (Below.refl _ w9).drew).trans (KpB.of hB5))
                          have hi5 := RdFn.keep (W := w9.drew) (Hi.of hB5) _ _ _ _ _ _ (RdFn.keep (Hi.of (Below.refl _ w9).drew) _ _ _ _ _ _ hEj.out)
                          have he5 := RdFn.keep (W := w9.drew) (Hi.of hB5) _ _ _ _ _ _ (RdFn.keep (Hi.of (Below.refl _ w9).drew) _ _ _ _ _ _ hE'.out)
                          have hg6 : w9.heap.size ≤ g5 := hg5
                          obtain ⟨u0, v0⟩ := txcell hX5 0 _ rfl
                          obtain ⟨u1, v1⟩ := txcell hX5 1 _ rfl
                          obtain ⟨u2, v2⟩ := txcell hX5 2 _ rfl
                          obtain ⟨u3, v3⟩ := txcell hX5 3 _ rfl
                          obtain ⟨u4, v4⟩ := txcell hX5 4 _ rfl)
          all_goals
            go_wp2
            go_roundw
            case rel =>
              refine ⟨j, pairV 5 g5, _, by omega, rfl, by go_num, ?_, rb_five hX5 rfl (.int .i64 5) (.string emp) (.int .i64 0) (.slice none 0 0) (.slice (some ⟨g5, 0, none⟩) 2 2), hK5.st5 (.int .i64 5) (.string emp) (.int .i64 0) (.slice none 0 0) (.slice (some ⟨g5, 0, none⟩) 2 2)⟩
              rw [foR_step 5 (f :: l) j (by rw [List.length_cons]; omega)]
              exact RdFn.keep (Hi.st5 (fun k (hk : w.heap.size < k ∧ k ≠ w3.heap.size) => hk.2) w5 (.int .i64 5) (.string emp) (.int .i64 0) (.slice none 0 0) (.slice (some ⟨g5, 0, none⟩) 2 2)) _ _ _ _ _ _ (mkF2r hi5 he5 hG5 ⟨by omega, by omega⟩ 5 0 emp ⟨by decide, by decide, sz_emp⟩)
            case measure => simp [intOf] <;> omega
        · obtain rfl : k = 0 := by omega
          obtain rfl : i = -1 := by omega
          clear hi
          rw [List.drop_zero] at hE
          have hE0 := mkHid hE
          clear hE hV9
          obtain ⟨z0, -⟩ := txcell hX 0 _ rfl
          obtain ⟨z1, -⟩ := txcell hX 1 _ rfl
          obtain ⟨z2, -⟩ := txcell hX 2 _ rfl
          obtain ⟨z3, -⟩ := txcell hX 3 _ rfl
          obtain ⟨z4, -⟩ := txcell hX 4 _ rfl
          obtain ⟨r0, g0⟩ := txcell hR9 0 _ rfl
          obtain ⟨r1, g1⟩ := txcell hR9 1 _ rfl
          obtain ⟨r2, g2⟩ := txcell hR9 2 _ rfl
          obtain ⟨r3, g3⟩ := txcell hR9 3 _ rfl
          obtain ⟨r4, g4⟩ := txcell hR9 4 _ rfl
          have hRy := rb_five hR9 rfl (.int .i64 e.o) (.string e.x) (.int .i64 e.m) (.slice e.bo e.n1 e.c1) (.slice e.ao e.n e.c)
          obtain ⟨s0, -⟩ := txcell hRy 0 _ rfl
          obtain ⟨s1, -⟩ := txcell hRy 1 _ rfl
          obtain ⟨s2, -⟩ := txcell hRy 2 _ rfl
          obtain ⟨s3, -⟩ := txcell hRy 3 _ rfl
          obtain ⟨s4, -⟩ := txcell hRy 4 _ rfl
          go_wp2
          exact bodyPost_ret (v := .agg #[.int .i64 e.o, .string e.x, .int .i64 e.m, .slice e.bo e.n1 e.c1, .slice e.ao e.n e.c]) (by simp [results, Tryz.results18, go_sem, s0, s1, s2, s3, s4]) rfl ⟨_, _, _, _, _, _, _, _, _, _, rfl, RdFn.low (fun k _ (hk : w.heap.size < k ∧ k ≠ w3.heap.size) => Nat.le_of_lt hk.1) _ _ _ _ _ _ (RdFn.keep (Hi.st5 (fun k (hk : w.heap.size < k ∧ k ≠ w3.heap.size) => by omega) w9 (.int .i64 e.o) (.string e.x) (.int .i64 e.m) (.slice e.bo e.n1 e.c1) (.slice e.ao e.n e.c)) _ _ _ _ _ _ hE0.out), by rw [HP.out]; exact hS9.st5 (by omega) hWw (.int .i64 e.o) (.string e.x) (.int .i64 e.m) (.slice e.bo e.n1 e.c1) (.slice e.ao e.n e.c), hU9.st5 (Nat.le_refl _) (.int .i64 e.o) (.string e.x) (.int .i64 e.m) (.slice e.bo e.n1 e.c1) (.slice e.ao e.n e.c), hFo.out⟩
set_option maxRecDepth 100000 in
set_option maxHeartbeats 8000000 in
theorem dlev_els {X : Rx} {N : Nat} {n : Nat} (hn : n < 4) (hn1 : n ≠ 1) (F : DLev (n + 1) X N) : DLev n X N := by
  intro w P r h hP hr
  obtain ⟨r0, hr0, hl⟩ := lv_start hn hr
  have hbw := h.lt
  have hWw := h.below.size
  have hR1 := rb_new w zF 26
  have h1 := h.alloc (.cells zF 26)
  have hB1 : Bux X.b w (w.alloc (.cells zF 26)) := Bux.of (bal w _)
  have FL : ∀ w P r, Ds X w P → P.from N → GF X.ws (.lev (n + 1)) P r → Calls Tryz.prog 18 #[.pointer (some ⟨X.b, 0, none⟩), .int .i64 ((n : Int) + 1)] w (DFm X w r) := F
  have FC := mkHid (FL _ _ _ h1 hP hr0)
  have hf0 := hr0.from hP
  have HL := mkHid hl
  have FF := mkHid FL
  have JC := mkHid (fun w5 => djoint_at n hn w5)
  have hn4 : ((n : Int) == 4) = false := by rw [beq_eq_false_iff_ne]; omega
  have hne4 : ¬ ((n : Int) = 4) := by omega
  have HN := mkHid hn1
  have hno : ((n : Int) == 1) = false := by rw [beq_eq_false_iff_ne]; omega
  have hne1 : ¬ ((n : Int) = 1) := by omega
  clear hr hl F FL hr0 hn1
  go_enter Tryz.func18, Tryz.ntmps18
  go_wp2_with (first
    | (go_at_call 39; refine (JC.out _).mono ?_; rintro e w2 ⟨rfl, rfl⟩)
    | (go_at_call 18; refine (FC.out).mono ?_; rintro e w2 ⟨o, xs, m, bo, k1, c1, ao, k2, c2, f0, rfl, hV2, h2, hC2, hf⟩))
  have hR2 := hR1.but hC2 (by omega)
  have hs1 : w.heap.size < w2.heap.size := (Array.getElem?_eq_some_iff.1 hR2).1
  have hO3 := own_one w2 (w.heap.size + 1) ⟨o, xs, m, bo, k1, c1, ao, k2, c2⟩ hs1
  have h3 := h2.alloc (.cells (FV.mk o xs m bo k1 c1 ao k2 c2).arr 26)
  have hR3 := hR2.keep (bal w2 (.cells (FV.mk o xs m bo k1 c1 ao k2 c2).arr 26))
  have hU3 : Bux X.b w (w2.alloc (.cells (FV.mk o xs m bo k1 c1 ao k2 c2).arr 26)) := (hB1.trans hC2).trans (Bux.of (bal w2 _))
  have hs2 := hC2.size
  rw [World.size_alloc] at hs2
  have hV3 : FVs (fun k => w.heap.size < k ∧ k ≠ w2.heap.size) (w2.alloc (.cells (FV.mk o xs m bo k1 c1 ao k2 c2).arr 26)) [f0] [FV.mk o xs m bo k1 c1 ao k2 c2] :=
    (FVs.one (f := f0) (e := FV.mk o xs m bo k1 c1 ao k2 c2) (hV2.low (P' := fun k => w.heap.size < k ∧ k ≠ w2.heap.size) (fun k hk (hg : _ ≤ k) => ⟨by rw [World.size_alloc] at hg; omega, by rw [World.size_alloc] at hg; omega⟩))).keep (Hi.of (bal w2 _))
  have hlx := HL.out f0 hf
  go_loopw [7] (fun s wr => ∃ (f : Fm) (l : List Fm) (E : List FV) (P1 : Pos) (q cap : Nat), s = .slice (some ⟨q, 0, none⟩) (l.length + 1) cap ∧ wr.ownsRow (w.heap.size + 1) 26 5 (.slice (some ⟨q, 0, none⟩) (l.length + 1) cap) (l.length + 1) (cellsF E) ∧ FVs (fun k => w.heap.size < k ∧ k ≠ q) wr (f :: l) E ∧ Ds X wr P1 ∧ P1.from N ∧ Lv X.ws n f l P1 r ∧ Bux X.b w wr ∧ Rb wr w.heap.size zF 26 ∧ l.length ≤ 4096 ∧ (∀ p, P1 = .at p → l.length ≤ p)) (fun _ wr => dsM X.n X.b wr)
  case atStart => exact ⟨f0, [], _, r0.pos, w2.heap.size, 1, rfl, hO3, hV3, h3, hf0, hlx, hU3, hR3, Nat.zero_le _, fun _ _ => Nat.zero_le _⟩
  case round =>
    clear hO3 h3 hR3 hU3 hV3 h2 hC2 hR2 h1 hR1 hB1 hV2 hf hlx HL FC hf0 hs1 hs2
    obtain ⟨f, l, E, P1, q, cap, rfl, hO, hV, hS, hP1, hL, hU, hR, hln, hlp⟩ := hrel
    have hlen : Hid (l.length + 1 = E.length) := hV.len
    have hsz := (Array.getElem?_eq_some_iff.1 hR).1
    have hq0 := hO.lt q rfl
    by_cases hst : P1.stands X.ws (sgOf n)
    · cases P1 with
      | bad y q => exact hst.elim
      | «at» p =>
        obtain ⟨r', hr', hl'⟩ := lv_yes hL hst
        have hlt := IsS.lt hst
        have hf' := hr'.from (N := p + 1) (Nat.le_refl _)
        have FC := mkHid (fun w5 h5 => FF.out w5 (.at (p + 1)) r' h5 (Nat.le_succ_of_le hP1) hr')
        have HL := mkHid hl'
        have hf2 := mkHid (hr'.from (N := N) (Nat.le_succ_of_le hP1))
        have hf3 := mkHid hf'
        have hsm := hS.small
        have hlp' := hlp p rfl
        clear hr' hl' hL FF hlp hf'
        go_wp2_with (fail)
        refine (dis_yes (x := sgOf n) hS hst).mono ?_
        rintro e w3 ⟨rfl, hB3⟩
        have hS3 := hS.keep hB3
        obtain ⟨t1, f1⟩ := txcell hS3.at'.2 1 _ rfl
        go_wp2_with (fail)
        obtain ⟨h4, hC4⟩ := hS3.next hlt
        clear t1 f1
        have hR4 := (hR.keep hB3).but hC4 (by omega)
        have hU4 := (hU.trans (Bux.of hB3)).trans hC4
        have hO4 : (w3.setCell ⟨X.b, 1, none⟩ (.int .i64 ((p : Int) + 1))).ownsRow (w.heap.size + 1) 26 5 (.slice (some ⟨q, 0, none⟩) (l.length + 1) cap) (l.length + 1) (cellsF E) := (own_keep hO hB3).kept (row := some X.b) ⟨hC4.os, hC4.tape, hC4.output, hC4.size, fun k hk hne => hC4.block k hk (fun e => hne (by rw [e]))⟩ (.inr fun e => by simp only [Value.ownBlock, Option.some.injEq] at e; omega)
        have hV4 := (hV.keep (Hi.of hB3)).keep (Hi.but hC4 (fun k hk => by omega))
        clear hC4
        generalize w3.setCell ⟨X.b, 1, none⟩ (.int .i64 ((p : Int) + 1)) = w4 at h4 hR4 hU4 hO4 hV4 ⊢
        refine (FC.out _ h4).mono ?_
        rintro e w5 ⟨o, xs, m, bo, k1, c1, ao, k2, c2, g, rfl, hV5, h5, hC5, hg⟩
        have hO5 := hO4.kept (row := some X.b) ⟨hC5.os, hC5.tape, hC5.output, hC5.size, fun k hk hne => hC5.block k hk (fun e => hne (by rw [e]))⟩ (.inr fun e => by simp only [Value.ownBlock, Option.some.injEq] at e; omega)
        have hs4 := (Array.getElem?_eq_some_iff.1 hR4).1
        have hs5 := hC5.size
        have hq4 := hO4.lt q rfl
        have hV6 := ((hV4.keep (Hi.but hC5 (fun k hk => by omega))).snoc (f := g) (e := ⟨o, xs, m, bo, k1, c1, ao, k2, c2⟩) (hV5.low (fun k hk (hg : _ ≤ k) => ⟨by omega, by omega⟩))).keep (Hi.of (bal w5 (.cells (FV.mk o xs m bo k1 c1 ao k2 c2).arr 26)))
        have hO6 := own_keep hO5 (bal w5 (.cells (FV.mk o xs m bo k1 c1 ao k2 c2).arr 26))
        have hX6 := rb_new w5 (FV.mk o xs m bo k1 c1 ao k2 c2).arr 26
        have hR6 := (hR4.but hC5 (by omega)).keep (bal w5 (.cells (FV.mk o xs m bo k1 c1 ao k2 c2).arr 26))
        have hU6 := (hU4.trans hC5).trans (Bux.of (bal w5 (.cells (FV.mk o xs m bo k1 c1 ao k2 c2).arr 26)))
        have h6 := h5.alloc (.cells (FV.mk o xs m bo k1 c1 ao k2 c2).arr 26)
        have hs6 : w.heap.size + 1 ≤ (w5.alloc (.cells (FV.mk o xs m bo k1 c1 ao k2 c2).arr 26)).heap.size := by rw [World.size_alloc]; omega
        go_wp2_with (at_builtin; refine wp_pushF _ (w.heap.size + 1) rfl (.tmp 36) (.tmp 41) rfl _ (l.length + 1) E rfl w5.heap.size (FV.mk o xs m bo k1 c1 ao k2 c2) rfl hO6 hX6 hs6 (by omega) ?_; intro v' w7 hO7 hK7 hq7)
        have hlx := HL.out g hg
        have hlE : (E ++ [FV.mk o xs m bo k1 c1 ao k2 c2]).length = l.length + 1 + 1 := by rw [List.length_append, List.length_singleton, ← hlen.out]
        have hq8 : ∀ k, v'.ownBlock = some k → some q = some k ∨ (w5.alloc (.cells (FV.mk o xs m bo k1 c1 ao k2 c2).arr 26)).heap.size ≤ k := hq7
        clear hq7
        obtain ⟨q', cap', rfl, _⟩ := ownsF_cell hO7 hlE 0 (by omega)
        have hs7 : ∀ k, k = q' → k = q ∨ (w5.alloc (.cells (FV.mk o xs m bo k1 c1 ao k2 c2).arr 26)).heap.size ≤ k := fun k e => by
          rcases hq8 k (by rw [e]; rfl) with h | h
          · simp only [Option.some.injEq] at h; exact .inl h.symm
          · exact .inr h
        have hK : KpB (some q) (w5.alloc (.cells (FV.mk o xs m bo k1 c1 ao k2 c2).arr 26)) w7 := hK7
        have hE7 : (l ++ [g]).length + 1 = l.length + 1 + 1 := by rw [List.length_append, List.length_singleton]
        go_roundw
        case rel =>
          refine ⟨f, l ++ [g], _, r'.pos, q', cap', by rw [hE7], by rw [hE7]; exact hO7, ?_, h6.kp hK (fun k hk => by simp only [Option.some.injEq] at hk; omega), hf2.out, hlx, hU6.kp hK (fun k hk => by simp only [Option.some.injEq] at hk; omega), hR6.kp hK (fun e => by simp only [Option.some.injEq] at e; omega), ?_, ?_⟩
          · exact ((hV6.low (P' := fun k => (w.heap.size < k ∧ k ≠ q) ∧ k ≠ q') (fun k hk hp => ⟨hp, fun e => by
              rcases hs7 k e with h1 | h1
              · exact hp.2 h1
              · omega⟩)).keep (Hi.kp hK (fun k hk e => hk.1.2 (by simpa using e)))).low (fun k _ hk => ⟨hk.1.1, hk.2⟩)
          · rw [List.length_append, List.length_singleton]; have := hS.words.len; have := hS.words.small; omega
          · intro p' e
            rw [List.length_append, List.length_singleton]
            have := hf3.out
            rw [e] at this
            have : p + 1 ≤ p' := this
            omega
        case measure => exact dsM_lt hS hlt (h6.kp hK (fun k hk => by simp only [Option.some.injEq] at hk; omega)) hf3.out
    · obtain ⟨hpos, his⟩ := lv_no hL hst
      have hFo : Hid (r.is (foL (opOf n) (f :: l))) := by have := his; rw [fold_of, if_neg HN.out] at this; exact this
      have HP := mkHid hpos
      clear his hL FF hpos
      go_wp2_with (fail)
      refine (dis_no (x := sgOf n) hS hst).mono ?_
      rintro e w3 ⟨rfl, hB3⟩
      have hS3 := hS.keep hB3
      have hR3 := hR.keep hB3
      have hU3 := hU.trans (Bux.of hB3)
      have hO3 := own_keep hO hB3
      have hV3 := hV.keep (Hi.of hB3)
      have hq3 := (hO3.lt q rfl).2
      have hR3l := (Array.getElem?_eq_some_iff.1 hR3).1
      have hb3 := hS3.lt
      obtain ⟨g, cap2, hv, hcap, hcx, hg1, hg2, hcell⟩ := ownsF_cell hO3 hlen.out.symm 0 (by omega)
      obtain ⟨rfl, rfl⟩ : q = g ∧ cap = cap2 := by simpa using hv
      clear hv hg1 hg2
      obtain ⟨x0, x1, x2, x3, x4⟩ := rb_el hcell
      simp only [Nat.zero_mul, Nat.zero_add] at x0 x1 x2 x3 x4
      clear hcell
      have hX4 := rb_new w3 (eget E 0).arr 26
      have hS4 := hS3.alloc (.cells (eget E 0).arr 26)
      have hR4 := hR3.keep (bal w3 (.cells (eget E 0).arr 26))
      have hU4 := hU3.trans (Bux.of (bal w3 (.cells (eget E 0).arr 26)))
      have hO4 := own_keep hO3 (bal w3 (.cells (eget E 0).arr 26))
      have hV4 := (hV3.low (P' := fun k => w.heap.size < k ∧ k ≠ w3.heap.size) (fun k hk hp => ⟨hp.1, by omega⟩)).keep (Hi.of (bal w3 (.cells (eget E 0).arr 26)))
      have hE4 := hV4.each 0 (by rw [List.length_cons]; omega)
      have hs4 : (w3.alloc (.cells (eget E 0).arr 26)).heap.size = w3.heap.size + 1 := World.size_alloc ..
      clear hS hR hU hO hV hS3 hR3 hU3 hO3 hV3 hB3 hlp hst hP1
      go_wp2
      generalize hw4 : w3.alloc (.cells (eget E 0).arr 26) = w4 at hX4 hS4 hR4 hU4 hO4 hV4 hE4 hs4
      go_loopw [11] (fun s wr => ∃ (k : Nat) (e : FV) (i : Int), (0 < k ∧ k ≤ l.length + 1) ∧ s = .int .i64 i ∧ i = (k : Int) ∧ FV.rd (fun k => w.heap.size < k ∧ k ≠ w3.heap.size) wr (foL (opOf n) ((f :: l).take k)) e ∧ Rb wr w3.heap.size e.arr 26 ∧ KpB (some w3.heap.size) w4 wr) (fun s _ => l.length + 1 - (intOf s).toNat)
      case atStart =>
        subst hw4
        exact ⟨1, eget E 0, _, by omega, rfl, by go_num, by rw [foL_first (opOf n) (f :: l) (by simp)]; exact hE4, hX4, KpB.refl _ _⟩
      case round =>
        clear hE4 hX4 hw4 x0 x1 x2 x3 x4
        obtain ⟨w9, hw9⟩ : ∃ w9, w9 = wr := ⟨_, rfl⟩
        subst hw9
        obtain ⟨k, e, i, hk, rfl, hi, hE, hX, hK⟩ := hrel
        have hO9 := hO4.kept hK (.inr fun e => by simp only [Value.ownBlock, Option.some.injEq] at e; omega)
        have hS9 := hS4.kp hK (fun k hk => by simp only [Option.some.injEq] at hk; omega)
        have hR9 := hR4.kp hK (fun e => by simp only [Option.some.injEq] at e; omega)
        have hU9 := hU4.kp hK (fun k hk => by simp only [Option.some.injEq] at hk; omega)
        have hV9 := hV4.keep (Hi.kp hK (fun k (hk : w.heap.size < k ∧ k ≠ w3.heap.size) e => hk.2 (by simpa using e)))
        have hBl := (Array.getElem?_eq_some_iff.1 hX).1
        by_cases hk0 : k < l.length + 1
        · obtain ⟨j, hj⟩ : ∃ j, j = k := ⟨k, rfl⟩
          subst hj
          subst hi
          have hOj := hO9
          obtain ⟨g, cap2, hv, hcap2, hcx2, hg1, hg2, hcell⟩ := ownsF_cell hOj hlen.out.symm j (by omega)
          obtain ⟨rfl, rfl⟩ : q = g ∧ cap = cap2 := by simpa using hv
          clear hv hg1 hg2
          obtain ⟨y0, y1, y2, y3, y4⟩ := rb_el hcell
          clear hcell
          obtain ⟨z0, -⟩ := txcell hX 0 _ rfl
          obtain ⟨z1, -⟩ := txcell hX 1 _ rfl
          obtain ⟨z2, -⟩ := txcell hX 2 _ rfl
          obtain ⟨z3, -⟩ := txcell hX 3 _ rfl
          obtain ⟨z4, -⟩ := txcell hX 4 _ rfl
          have hEj := mkHid (hV9.each j (by rw [List.length_cons]; omega))
          have hE' := mkHid hE
          have PC := mkHid (fun w5 => dpair_at (opOf n) e (eget E j) w5)
          clear hE hV9 hOj
          go_wp2
          go_region_with (go_at_call 41
                          refine (PC.out _).mono ?_
                          rintro e5 w5 ⟨g5, rfl, hg5, hG5, hB5⟩
                          have hs5 : w9.heap.size ≤ w5.heap.size := hB5.size
                          have hX5 := Rb.keep (w := w9.drew) hX hB5
                          have hK5 : KpB (some w3.heap.size) w4 w5 := hK.trans ((KpB.of (r := some w3.heap.size) (Below.refl _ w9).drew).trans (KpB.of hB5))
                          have hi5 := RdFn.keep (W := w9.drew) (Hi.of hB5) _ _ _ _ _ _ (RdFn.keep (Hi.of (Below.refl _ w9).drew) _ _ _ _ _ _ hEj.out)
                          have he5 := RdFn.keep (W := w9.drew) (Hi.of hB5) _ _ _ _ _ _ (RdFn.keep (Hi.of (Below.refl _ w9).drew) _ _ _ _ _ _ hE'.out)
                          have hg6 : w9.heap.size ≤ g5 := hg5
                          obtain ⟨u0, v0⟩ := txcell hX5 0 _ rfl
                          obtain ⟨u1, v1⟩ := txcell hX5 1 _ rfl
                          obtain ⟨u2, v2⟩ := txcell hX5 2 _ rfl
                          obtain ⟨u3, v3⟩ := txcell hX5 3 _ rfl
                          obtain ⟨u4, v4⟩ := txcell hX5 4 _ rfl)
          all_goals
            go_wp2
            go_roundw
            case rel =>
              refine ⟨(j + 1), pairV (opOf n) g5, _, by omega, rfl, by go_num, ?_, rb_five hX5 rfl (.int .i64 (opOf n)) (.string emp) (.int .i64 0) (.slice none 0 0) (.slice (some ⟨g5, 0, none⟩) 2 2), hK5.st5 (.int .i64 (opOf n)) (.string emp) (.int .i64 0) (.slice none 0 0) (.slice (some ⟨g5, 0, none⟩) 2 2)⟩
              rw [foL_step (opOf n) (f :: l) j (by omega) (by rw [List.length_cons]; omega)]
              exact RdFn.keep (Hi.st5 (fun k (hk : w.heap.size < k ∧ k ≠ w3.heap.size) => hk.2) w5 (.int .i64 (opOf n)) (.string emp) (.int .i64 0) (.slice none 0 0) (.slice (some ⟨g5, 0, none⟩) 2 2)) _ _ _ _ _ _ (mkF2r he5 hi5 hG5 ⟨by omega, by omega⟩ (opOf n) 0 emp ⟨op_fits n, by decide, sz_emp⟩)
            case measure => simp [intOf] <;> omega
        · obtain rfl : k = l.length + 1 := by omega
          subst hi
          rw [List.take_of_length_le (by simp)] at hE
          have hE0 := mkHid hE
          clear hE hV9
          obtain ⟨z0, -⟩ := txcell hX 0 _ rfl
          obtain ⟨z1, -⟩ := txcell hX 1 _ rfl
          obtain ⟨z2, -⟩ := txcell hX 2 _ rfl
          obtain ⟨z3, -⟩ := txcell hX 3 _ rfl
          obtain ⟨z4, -⟩ := txcell hX 4 _ rfl
          obtain ⟨r0, g0⟩ := txcell hR9 0 _ rfl
          obtain ⟨r1, g1⟩ := txcell hR9 1 _ rfl
          obtain ⟨r2, g2⟩ := txcell hR9 2 _ rfl
          obtain ⟨r3, g3⟩ := txcell hR9 3 _ rfl
          obtain ⟨r4, g4⟩ := txcell hR9 4 _ rfl
          have hRy := rb_five hR9 rfl (.int .i64 e.o) (.string e.x) (.int .i64 e.m) (.slice e.bo e.n1 e.c1) (.slice e.ao e.n e.c)
          obtain ⟨s0, -⟩ := txcell hRy 0 _ rfl
          obtain ⟨s1, -⟩ := txcell hRy 1 _ rfl
          obtain ⟨s2, -⟩ := txcell hRy 2 _ rfl
          obtain ⟨s3, -⟩ := txcell hRy 3 _ rfl
          obtain ⟨s4, -⟩ := txcell hRy 4 _ rfl
          go_wp2
          exact bodyPost_ret (v := .agg #[.int .i64 e.o, .string e.x, .int .i64 e.m, .slice e.bo e.n1 e.c1, .slice e.ao e.n e.c]) (by simp [results, Tryz.results18, go_sem, s0, s1, s2, s3, s4]) rfl ⟨_, _, _, _, _, _, _, _, _, _, rfl, RdFn.low (fun k _ (hk : w.heap.size < k ∧ k ≠ w3.heap.size) => Nat.le_of_lt hk.1) _ _ _ _ _ _ (RdFn.keep (Hi.st5 (fun k (hk : w.heap.size < k ∧ k ≠ w3.heap.size) => by omega) w9 (.int .i64 e.o) (.string e.x) (.int .i64 e.m) (.slice e.bo e.n1 e.c1) (.slice e.ao e.n e.c)) _ _ _ _ _ _ hE0.out), by rw [HP.out]; exact hS9.st5 (by omega) hWw (.int .i64 e.o) (.string e.x) (.int .i64 e.m) (.slice e.bo e.n1 e.c1) (.slice e.ao e.n e.c), hU9.st5 (Nat.le_refl _) (.int .i64 e.o) (.string e.x) (.int .i64 e.m) (.slice e.bo e.n1 e.c1) (.slice e.ao e.n e.c), hFo.out⟩
theorem dlev_step {X : Rx} {N : Nat} {n : Nat} (hn : n < 4) (F : DLev (n + 1) X N) : DLev n X N := by
  by_cases h : n = 1
  · subst h; exact dlev_one F
  · exact dlev_els hn h F
end Go.Proofs.YtabfhdmcljdjhaaGreatDoor.Gl
