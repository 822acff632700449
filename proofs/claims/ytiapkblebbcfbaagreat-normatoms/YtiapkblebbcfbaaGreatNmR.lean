/- The program's difference. -/
import Derived.Test.YtiapkblebbcfbaaGreatNmO
namespace Go.Proofs.YtiapkblebbcfbaaGreat.Gl
open Go.RowKit
set_option linter.unusedVariables false
set_option linter.unusedSimpArgs false

/-- what an atom's two sides come to -/
def dfS (o : Int) (s t : Tm) : Lr := match lin s with | .er e => .er e | .ok a => match lin t with | .er e => .er e | .ok b => mkS (difS o a b)
theorem LrN.st3 {B X : Nat} {w : World} {r : Lr} {v : Value} (h : LrN B w r v) (hX : X < B) (v0 v1 v2 : Value) : LrN B (Gl.st3 w X v0 v1 v2) r v := by
  cases r with
  | er e => exact h
  | ok s =>
    obtain ⟨no, n, c, m, d, g, e, h1, h2, h3⟩ := h
    have hg : B ≤ g := owns_ad h3 _ rfl
    exact ⟨no, n, c, m, d, g, e, rds_st3 h1 (fun ad e => by have := h2.1 ad e; omega) _ _ _, h2, owns_st3 h3 (fun k e => by cases e; show g ≠ X; omega) _ _ _⟩
theorem LrN.mono {B B' : Nat} {w : World} {r : Lr} {v : Value} (h : LrN B w r v) (hb : B' ≤ B) : LrN B' w r v := by
  cases r with
  | er e => exact h
  | ok s =>
    obtain ⟨no, n, c, m, d, g, e, h1, h2, h3⟩ := h
    exact ⟨no, n, c, m, d, g, e, h1, ⟨h2.1.mono hb, h2.2⟩, owns_mono h3 hb⟩
theorem rds_bux {w w' : World} {X : Nat} {ro : Option Addr} {n c : Nat} {T : List ByteArray} (h : RdS w ro n c T) (hb : Bux X w w') (hne : ∀ ad, ro = some ad → ad.block ≠ X) : RdS w' ro n c T := by
  refine ⟨h.eqlen, h.lecap, h.lemax, h.isnil, fun j hj => ?_⟩
  obtain ⟨b, off, rfl, hc⟩ := h.cell j hj
  refine ⟨b, off, rfl, ?_⟩
  have hlt := World.block_lt_of_cell? _ _ hc
  have e := hb.block b hlt (hne _ rfl)
  unfold World.cell? at hc ⊢
  rw [e]
  exact hc
theorem rdz_bux {w w' : World} {X : Nat} {ro : Option Addr} {n c : Nat} {T : List Int} (h : RdZ w ro n c T) (hb : Bux X w w') (hne : ∀ ad, ro = some ad → ad.block ≠ X) : RdZ w' ro n c T := by
  refine ⟨h.eqlen, h.lecap, h.lemax, h.isnil, fun j hj => ?_⟩
  obtain ⟨b, off, rfl, hc⟩ := h.cell j hj
  refine ⟨b, off, rfl, ?_⟩
  have hlt := World.block_lt_of_cell? _ _ hc
  have e := hb.block b hlt (hne _ rfl)
  unfold World.cell? at hc ⊢
  rw [e]
  exact hc
theorem bux_st3 {b : Nat} {w w' : World} (h : Bux b w w') (v0 v1 v2 : Value) : Bux b w (st3 w' b v0 v1 v2) := ((h.set 0 v0).set 1 v1).set 2 v2
theorem bux_st3n {b X : Nat} {w w' : World} (h : Bux b w w') (hX : w.heap.size ≤ X) (v0 v1 v2 : Value) : Bux b w (st3 w' X v0 v1 v2) := but_new (but_new (but_new h hX 0 v0) hX 1 v1) hX 2 v2
/-- a formula's box and the result's -/
structure FrF (w w2 : World) (c0 c1 c2 c3 c4 : Value) (z : Array Value) (T : TypeId) : Prop where
  box : Rb w2 w.heap.size #[c0, c1, c2, c3, c4] 41
  res : Rb w2 (w.heap.size + 1) z T
  bel : Below w.heap.size w w2
  size : w.heap.size + 2 ≤ w2.heap.size
theorem FrF.keep {w w2 w3 : World} {c0 c1 c2 c3 c4 : Value} {z : Array Value} {T : TypeId} (h : FrF w w2 c0 c1 c2 c3 c4 z T) (hb : Below w2.heap.size w2 w3) : FrF w w3 c0 c1 c2 c3 c4 z T :=
  ⟨h.box.keep hb, h.res.keep hb, bt2 h.bel hb, Nat.le_trans h.size hb.size⟩
theorem frF_new (w : World) (c0 c1 c2 c3 c4 : Value) (z : Array Value) (T : TypeId) : FrF w ((w.alloc (.cells #[c0, c1, c2, c3, c4] 41)).alloc (.cells z T)) c0 c1 c2 c3 c4 z T := by
  have h1 := rb_new w #[c0, c1, c2, c3, c4] 41
  have h2 := rb_new (w.alloc (.cells #[c0, c1, c2, c3, c4] 41)) z T
  rw [show (w.alloc (.cells #[c0, c1, c2, c3, c4] 41)).heap.size = w.heap.size + 1 from by simp] at h2
  exact ⟨h1.keep (bal _ _), h2, bt2 (bal w _) (bal _ _), by simp⟩
set_option maxRecDepth 100000 in
set_option maxHeartbeats 4000000 in
theorem difference_at (W : World) (o : Int) (x : ByteArray) (md : Int) (s t : Tm) (fa : List Fm) (v : Value) (w : World) (hv : FmV W (.mk o x md [s, t] fa) v) (hW : Below W.heap.size W w) (hs : s.all (wellT nmB) = true) (ht : t.all (wellT nmB) = true) (hsz : s.size + t.size ≤ 499) :
    Calls Tryz.prog 19 #[v] w fun e w' => ∃ v', e = .returned v' ∧ LrN w.heap.size w' (dfS o s t) v' ∧ Below w.heap.size w w' := by
  obtain ⟨c0, c1, c2, c3, c4, rfl, hr⟩ := hv
  rw [RdF] at hr
  obtain ⟨rfl, rfl, rfl, -, ⟨ao, cap, rfl, hcap, hcm, hk⟩, -⟩ := hr
  obtain ⟨g, of, d0, d1, d2, d3, f0, f1, f2, f3, rfl, q0, q1, q2, q3, hrt, t0, t1, t2, t3, hru, hg⟩ := two_kids hk
  have hcap' : 2 ≤ cap := hcap
  have HG : Hid (∀ p, lin s = .ok p → p.good nmB 500) := fun p hp => (lin_good nmB s hs p hp).mono (by omega)
  have HE : Hid (∀ e, lin s = .er e → e = 90 ∨ e = 91) := lin_er nmB s hs
  have HGu : Hid (∀ p, lin t = .ok p → p.good nmB 500) := fun p hp => (lin_good nmB t ht p hp).mono (by omega)
  have HEu : Hid (∀ e, lin t = .er e → e = 90 ∨ e = 91) := lin_er nmB t ht
  have HF := mkHid (frF_new w (.int .i64 o) (.string x) (.int .i64 md) (.slice (some ⟨g, of, none⟩) 2 cap) c4 zS 54)
  generalize hw2 : (w.alloc (.cells #[.int .i64 o, .string x, .int .i64 md, .slice (some ⟨g, of, none⟩) 2 cap, c4] 41)).alloc (.cells zS 54) = w2 at HF
  have hB2 := HF.out.bel
  have hs2 := HF.out.size
  have hW2 : Below W.heap.size W w2 := hW.trans (hB2.mono hW.size)
  have C := mkHid (linear_at s hs W (.agg #[d0, d1, d2, d3]) w2 ⟨_, _, _, _, rfl, hrt⟩ hW2 (by omega))
  have CU : Hid (∀ w', Below W.heap.size W w' → Calls Tryz.prog 15 #[.agg #[f0, f1, f2, f3]] w' fun e w'' => ∃ v', e = .returned v' ∧ LrB w'.heap.size w'' (lin t) v' ∧ Below w'.heap.size w' w'') := fun w' h => linear_at t ht W (.agg #[f0, f1, f2, f3]) w' ⟨_, _, _, _, rfl, hru⟩ h (by omega)
  have p0 : w2.cell? ⟨g, of, none⟩ = some d0 := (hW2.cell (p := ⟨g, of, none⟩) hg).trans q0
  have p1 : w2.cell? ⟨g, of + 1, none⟩ = some d1 := (hW2.cell (p := ⟨g, of + 1, none⟩) hg).trans q1
  have p2 : w2.cell? ⟨g, of + 2, none⟩ = some d2 := (hW2.cell (p := ⟨g, of + 2, none⟩) hg).trans q2
  have p3 : w2.cell? ⟨g, of + 3, none⟩ = some d3 := (hW2.cell (p := ⟨g, of + 3, none⟩) hg).trans q3
  unfold zS at hw2
  rw [← hw2] at p0 p1 p2 p3
  have HW : Hid ((w.alloc (.cells #[.int .i64 o, .string x, .int .i64 md, .slice (some ⟨g, of, none⟩) 2 cap, c4] 41)).alloc (.cells #[.slice none 0 0, .slice none 0 0, .int .i64 0] 54) = w2) := hw2
  clear hw2 q0 q1 q2 q3 hrt hru hk hB2
  go_enter Tryz.func19, Tryz.ntmps19
  go_wp2_with (fail)
  have eW := HW.out
  rw [eW]
  clear eW HW p0 p1 p2 p3
  refine C.out.mono ?_
  rintro e w3 ⟨v', rfl, hL, hB3⟩
  have HF3 := HF.out.keep hB3
  have hs3 := HF3.size
  have hs23 : w2.heap.size ≤ w3.heap.size := hB3.size
  have hW3 : Below W.heap.size W w3 := hW2.trans (hB3.mono hW2.size)
  clear C hW2
  cases hl : lin s with
  | er e =>
    rw [hl] at hL
    have hv : v' = .tuple #[.agg zS, .int .i64 e] := hL
    subst hv
    have HR : Hid (dfS o s t = .er e) := by show _ = _; unfold dfS; rw [hl]
    rcases HE.out e hl with rfl | rfl
    · have HF4 := HF3.keep (bal w3 (.cells #[.slice none 0 0, .slice none 0 0, .int .i64 0] 54))
      have hR9 := rb_three HF4.res rfl (.slice none 0 0) (.slice none 0 0) (.int .i64 0)
      have hB9 := mkHid (bel_st3 (B := w.heap.size + 1) HF4.bel (by omega) (.slice none 0 0) (.slice none 0 0) (.int .i64 0))
      obtain ⟨r0, s0⟩ := txcell HF4.res 0 _ rfl
      obtain ⟨r1, s1⟩ := txcell HF4.res 1 _ rfl
      obtain ⟨r2, s2⟩ := txcell HF4.res 2 _ rfl
      clear HG HE hL CU HGu HEu t0 t1 t2 t3
      go_wp2_with (fail)
      obtain ⟨k0, -⟩ := txcell hR9 0 _ rfl
      obtain ⟨k1, -⟩ := txcell hR9 1 _ rfl
      obtain ⟨k2, -⟩ := txcell hR9 2 _ rfl
      exact bodyPost_ret (v := .tuple #[.agg zS, .int .i64 90]) (by simp [results, Tryz.results19, go_sem, k0, k1, k2]) rfl ⟨_, rfl, by rw [HR.out]; rfl, hB9.out⟩
    · have HF4 := HF3.keep (bal w3 (.cells #[.slice none 0 0, .slice none 0 0, .int .i64 0] 54))
      have hR9 := rb_three HF4.res rfl (.slice none 0 0) (.slice none 0 0) (.int .i64 0)
      have hB9 := mkHid (bel_st3 (B := w.heap.size + 1) HF4.bel (by omega) (.slice none 0 0) (.slice none 0 0) (.int .i64 0))
      obtain ⟨r0, s0⟩ := txcell HF4.res 0 _ rfl
      obtain ⟨r1, s1⟩ := txcell HF4.res 1 _ rfl
      obtain ⟨r2, s2⟩ := txcell HF4.res 2 _ rfl
      clear HG HE hL CU HGu HEu t0 t1 t2 t3
      go_wp2_with (fail)
      obtain ⟨k0, -⟩ := txcell hR9 0 _ rfl
      obtain ⟨k1, -⟩ := txcell hR9 1 _ rfl
      obtain ⟨k2, -⟩ := txcell hR9 2 _ rfl
      exact bodyPost_ret (v := .tuple #[.agg zS, .int .i64 91]) (by simp [results, Tryz.results19, go_sem, k0, k1, k2]) rfl ⟨_, rfl, by rw [HR.out]; rfl, hB9.out⟩
  | ok p =>
    rw [hl] at hL
    obtain ⟨no, co, n, c, m, d, rfl, hRd, hno, hco⟩ := hL
    have hB4 := bal w3 (.cells #[.slice no n c, .slice co m d, .int .i64 p.k] 54)
    have hR4 := rb_new w3 #[.slice no n c, .slice co m d, .int .i64 p.k] 54
    have HF4 := HF3.keep hB4
    have hW4 : Below W.heap.size W (w3.alloc (.cells #[.slice no n c, .slice co m d, .int .i64 p.k] 54)) := hW3.trans (hB4.mono hW3.size)
    obtain ⟨b3, -⟩ := txcell HF4.box 3 _ rfl
    have p0 : (w3.alloc (.cells #[.slice no n c, .slice co m d, .int .i64 p.k] 54)).cell? ⟨g, of + 4, none⟩ = some f0 := (hW4.cell (p := ⟨g, of + 4, none⟩) hg).trans t0
    have p1 : (w3.alloc (.cells #[.slice no n c, .slice co m d, .int .i64 p.k] 54)).cell? ⟨g, of + 5, none⟩ = some f1 := (hW4.cell (p := ⟨g, of + 5, none⟩) hg).trans t1
    have p2 : (w3.alloc (.cells #[.slice no n c, .slice co m d, .int .i64 p.k] 54)).cell? ⟨g, of + 6, none⟩ = some f2 := (hW4.cell (p := ⟨g, of + 6, none⟩) hg).trans t2
    have p3 : (w3.alloc (.cells #[.slice no n c, .slice co m d, .int .i64 p.k] 54)).cell? ⟨g, of + 7, none⟩ = some f3 := (hW4.cell (p := ⟨g, of + 7, none⟩) hg).trans t3
    have hs4 : w3.heap.size + 1 ≤ (w3.alloc (.cells #[.slice no n c, .slice co m d, .int .i64 p.k] 54)).heap.size := by simp
    clear t0 t1 t2 t3
    go_wp2_with (fail)
    generalize w3.alloc (.cells #[.slice no n c, .slice co m d, .int .i64 p.k] 54) = w4 at hB4 hR4 HF4 hW4 hs4 ⊢
    clear b3 p0 p1 p2 p3
    refine (CU.out w4 hW4).mono ?_
    rintro e w5 ⟨v', rfl, hL2, hB5⟩
    have HF5 := HF4.keep hB5
    have hR5 := hR4.keep hB5
    have hs5 : w.heap.size + 2 ≤ w5.heap.size := HF5.size
    have hs5' : w4.heap.size ≤ w5.heap.size := hB5.size
    clear CU
    cases hm : lin t with
    | er e =>
      rw [hm] at hL2
      have hv : v' = .tuple #[.agg zS, .int .i64 e] := hL2
      subst hv
      have HR : Hid (dfS o s t = .er e) := by show _ = _; unfold dfS; rw [hl, hm]
      rcases HEu.out e hm with rfl | rfl
      · have HF4 := HF5.keep (bal w5 (.cells #[.slice none 0 0, .slice none 0 0, .int .i64 0] 54))
        have hR9 := rb_three HF4.res rfl (.slice none 0 0) (.slice none 0 0) (.int .i64 0)
        have hB9 := mkHid (bel_st3 (B := w.heap.size + 1) HF4.bel (by omega) (.slice none 0 0) (.slice none 0 0) (.int .i64 0))
        obtain ⟨r0, s0⟩ := txcell HF4.res 0 _ rfl
        obtain ⟨r1, s1⟩ := txcell HF4.res 1 _ rfl
        obtain ⟨r2, s2⟩ := txcell HF4.res 2 _ rfl
        clear HG HE hL2 HGu HEu hRd
        go_wp2_with (fail)
        obtain ⟨k0, -⟩ := txcell hR9 0 _ rfl
        obtain ⟨k1, -⟩ := txcell hR9 1 _ rfl
        obtain ⟨k2, -⟩ := txcell hR9 2 _ rfl
        exact bodyPost_ret (v := .tuple #[.agg zS, .int .i64 90]) (by simp [results, Tryz.results19, go_sem, k0, k1, k2]) rfl ⟨_, rfl, by rw [HR.out]; rfl, hB9.out⟩
      · have HF4 := HF5.keep (bal w5 (.cells #[.slice none 0 0, .slice none 0 0, .int .i64 0] 54))
        have hR9 := rb_three HF4.res rfl (.slice none 0 0) (.slice none 0 0) (.int .i64 0)
        have hB9 := mkHid (bel_st3 (B := w.heap.size + 1) HF4.bel (by omega) (.slice none 0 0) (.slice none 0 0) (.int .i64 0))
        obtain ⟨r0, s0⟩ := txcell HF4.res 0 _ rfl
        obtain ⟨r1, s1⟩ := txcell HF4.res 1 _ rfl
        obtain ⟨r2, s2⟩ := txcell HF4.res 2 _ rfl
        clear HG HE hL2 HGu HEu hRd
        go_wp2_with (fail)
        obtain ⟨k0, -⟩ := txcell hR9 0 _ rfl
        obtain ⟨k1, -⟩ := txcell hR9 1 _ rfl
        obtain ⟨k2, -⟩ := txcell hR9 2 _ rfl
        exact bodyPost_ret (v := .tuple #[.agg zS, .int .i64 91]) (by simp [results, Tryz.results19, go_sem, k0, k1, k2]) rfl ⟨_, rfl, by rw [HR.out]; rfl, hB9.out⟩
    | ok q =>
      rw [hm] at hL2
      obtain ⟨qo, qc, qn, qk, qm, qd, rfl, hRq, hqo, hqc⟩ := hL2
      have HR0 : Hid (dfS o s t = mkS (difS o p q)) := by show _ = _; unfold dfS; rw [hl, hm]
      have hB6 := bal w5 (.cells #[.slice qo qn qk, .slice qc qm qd, .int .i64 q.k] 54)
      have hB46 := bt2 hB4 (bt2 hB5 hB6)
      have HF6 := HF5.keep hB6
      have hR6 := hR5.keep hB6
      have hR7 := rb_new w5 #[.slice qo qn qk, .slice qc qm qd, .int .i64 q.k] 54
      have hs6 : w5.heap.size + 1 ≤ (w5.alloc (.cells #[.slice qo qn qk, .slice qc qm qd, .int .i64 q.k] 54)).heap.size := by simp
      have hRd6 := mkHid (hRd.below hB46)
      have hRq6 := mkHid (hRq.below hB6)
      have hRd3 := mkHid hRd
      have hRq5 := mkHid hRq
      clear hRd hRq HE HEu
      have b0 := (txcell HF6.box 0 _ rfl).1
      have e0 := (txcell hR6 0 _ rfl)
      have e1 := (txcell hR6 1 _ rfl)
      have e2 := (txcell hR6 2 _ rfl)
      by_cases ho : o = 11 ∨ o = 12
      · have HR : Hid (dfS o s t = mkS (cmb (fun a b => a - b) q p)) := HR0.out.trans (by unfold difS; rw [if_pos ho])
        have o1 : ((o == 11) = true) ∨ ((o == 11) = false ∧ (o == 12) = true) := by
          rcases ho with rfl | rfl
          · exact .inl rfl
          · exact .inr ⟨rfl, rfl⟩
        have hX1 := rb_three hR6 rfl (.slice qo qn qk) (.slice qc qm qd) (.int .i64 q.k)
        have hX2 := hR7.st3 (X := w3.heap.size) (by omega) (.slice qo qn qk) (.slice qc qm qd) (.int .i64 q.k)
        have hY1 := hX1.st3 (X := w5.heap.size) (by omega) (.slice no n c) (.slice co m d) (.int .i64 p.k)
        have hY2 := rb_three hX2 rfl (.slice no n c) (.slice co m d) (.int .i64 p.k)
        have hB3x := bel_st3 (B := w5.heap.size) (bel_st3 (B := w3.heap.size) hB46 (Nat.le_refl _) (.slice qo qn qk) (.slice qc qm qd) (.int .i64 q.k)) (by omega) (.slice no n c) (.slice co m d) (.int .i64 p.k)
        have hXx := bux_st3n (X := w5.heap.size) (bux_st3 (Bux.of (b := w3.heap.size) hB6) (.slice qo qn qk) (.slice qc qm qd) (.int .i64 q.k)) (Nat.le_refl _) (.slice no n c) (.slice co m d) (.int .i64 p.k)
        have HFx := HF3.keep hB3x
        have hRdx := mkHid (hRd3.out.below hB3x)
        have hRqx := mkHid (And.intro (rds_bux hRq5.out.1 hXx (fun ad e => by have := hqo ad e; omega)) (rdz_bux hRq5.out.2 hXx (fun ad e => by have := hqc ad e; omega)))
        have C := mkHid (combine_at 36 (fun a b => a - b) opc_sub q p nmB qo qc no co qn qk qm qd n c m d _ hRqx.out hRdx.out (HGu.out q hm) (HG.out p hl))
        have g0 := (txcell hR7 0 _ rfl).1
        have g1 := (txcell hR7 1 _ rfl).1
        have g2 := (txcell hR7 2 _ rfl).1
        have i0 := txcell hX2 0 _ rfl
        have i1 := txcell hX2 1 _ rfl
        have i2 := txcell hX2 2 _ rfl
        have m0 := (txcell hY1 0 _ rfl).1
        have m1 := (txcell hY1 1 _ rfl).1
        have m2 := (txcell hY1 2 _ rfl).1
        have n0 := (txcell hY2 0 _ rfl).1
        have n1 := (txcell hY2 1 _ rfl).1
        have n2 := (txcell hY2 2 _ rfl).1
        have hs7 := hB3x.size
        dsimp only [st3] at i0 i1 i2 m0 m1 m2 n0 n1 n2
        clear HG HGu ho HR0 hRd6 hRq6 hX1 hX2 hY1 hY2 hXx
        rcases o1 with o1 | ⟨o1, o2⟩
        all_goals
          go_wp2_with (fail)
          refine C.out.mono ?_
          rintro e w7 ⟨v5, rfl, hL5, hB7⟩
          have HF7 := HFx.keep hB7
          obtain ⟨xo, xn, xc, yo, yn, yc, k, e, rfl⟩ := hL5.b.shape
          have hL9 := mkHid ((hL5.mono (B' := w.heap.size + 2) (by omega)).st3 (X := w.heap.size + 1) (by omega) (.slice xo xn xc) (.slice yo yn yc) (.int .i64 k))
          have hR9 := rb_three HF7.res rfl (.slice xo xn xc) (.slice yo yn yc) (.int .i64 k)
          have hB9 := mkHid (bel_st3 (B := w.heap.size + 1) HF7.bel (by omega) (.slice xo xn xc) (.slice yo yn yc) (.int .i64 k))
          obtain ⟨r0, s0⟩ := txcell HF7.res 0 _ rfl
          obtain ⟨r1, s1⟩ := txcell HF7.res 1 _ rfl
          obtain ⟨r2, s2⟩ := txcell HF7.res 2 _ rfl
          clear C hL5
          go_wp2_with (fail)
          obtain ⟨k0, -⟩ := txcell hR9 0 _ rfl
          obtain ⟨k1, -⟩ := txcell hR9 1 _ rfl
          obtain ⟨k2, -⟩ := txcell hR9 2 _ rfl
          exact bodyPost_ret (v := .tuple #[.agg #[.slice xo xn xc, .slice yo yn yc, .int .i64 k], .int .i64 e]) (by simp [results, Tryz.results19, go_sem, k0, k1, k2]) rfl ⟨_, rfl, by rw [HR.out]; exact hL9.out.mono (by omega), hB9.out⟩
      · have HR : Hid (dfS o s t = mkS (cmb (fun a b => a - b) p q)) := HR0.out.trans (by unfold difS; rw [if_neg ho])
        have o1 : (o == 11) = false := by rw [beq_eq_false_iff_ne]; omega
        have o2 : (o == 12) = false := by rw [beq_eq_false_iff_ne]; omega
        have C := mkHid (combine_at 36 (fun a b => a - b) opc_sub p q nmB no co qo qc n c m d qn qk qm qd _ hRd6.out hRq6.out (HG.out p hl) (HGu.out q hm))
        clear HG HGu ho HR0
        go_wp2_with (fail)
        refine C.out.mono ?_
        rintro e w7 ⟨v5, rfl, hL5, hB7⟩
        have HF7 := HF6.keep hB7
        obtain ⟨xo, xn, xc, yo, yn, yc, k, e, rfl⟩ := hL5.b.shape
        have hL9 := mkHid ((hL5.mono (B' := w.heap.size + 2) (by omega)).st3 (X := w.heap.size + 1) (by omega) (.slice xo xn xc) (.slice yo yn yc) (.int .i64 k))
        have hR9 := rb_three HF7.res rfl (.slice xo xn xc) (.slice yo yn yc) (.int .i64 k)
        have hB9 := mkHid (bel_st3 (B := w.heap.size + 1) HF7.bel (by omega) (.slice xo xn xc) (.slice yo yn yc) (.int .i64 k))
        obtain ⟨r0, s0⟩ := txcell HF7.res 0 _ rfl
        obtain ⟨r1, s1⟩ := txcell HF7.res 1 _ rfl
        obtain ⟨r2, s2⟩ := txcell HF7.res 2 _ rfl
        clear C hL5
        go_wp2_with (fail)
        obtain ⟨k0, -⟩ := txcell hR9 0 _ rfl
        obtain ⟨k1, -⟩ := txcell hR9 1 _ rfl
        obtain ⟨k2, -⟩ := txcell hR9 2 _ rfl
        exact bodyPost_ret (v := .tuple #[.agg #[.slice xo xn xc, .slice yo yn yc, .int .i64 k], .int .i64 e]) (by simp [results, Tryz.results19, go_sem, k0, k1, k2]) rfl ⟨_, rfl, by rw [HR.out]; exact hL9.out.mono (by omega), hB9.out⟩
end Go.Proofs.YtiapkblebbcfbaaGreat.Gl
