/- The law's value of a term. -/
import Derived.Test.YtiapkblebbcfbaaNmV
namespace Go.Proofs.Ytiapkblebbcfbaa.Gl
open Go.RowKit
set_option linter.unusedVariables false
set_option linter.unusedSimpArgs false

/-- what value answers -/
def VlR (x : Int) (w : World) (e : Ending) (w' : World) : Prop := ∃ (v : Int) (ok : Bool), e = .returned (.tuple #[.int .i64 v, .bool ok]) ∧ (ok = true → v = x ∧ -1073741824 < v ∧ v < 1073741824) ∧ Below w.heap.size w w'
/-- names and values in memory -/
structure Env (W : World) (ns : List ByteArray) (vs : List Int) (no vo : Option Addr) (n c d : Nat) : Prop where
  rd : RdS W no n c ns
  rv : RdZ W vo n d vs
  ris : Ris ns
  sml : Sml vs
theorem Env.below {W w : World} {ns : List ByteArray} {vs : List Int} {no vo : Option Addr} {n c d : Nat} (h : Env W ns vs no vo n c d) (hb : Below W.heap.size W w) : Env w ns vs no vo n c d := ⟨h.rd.below (Nat.le_refl _) hb, h.rv.below (Nat.le_refl _) hb, h.ris, h.sml⟩
def evE (ns : List ByteArray) (vs : List Int) (x : ByteArray) : Int := cof x ns vs
def ValC (ns : List ByteArray) (vs : List Int) (no vo : Option Addr) (n c d : Nat) (t : Tm) : Prop := ∀ (W : World) (v : Value) (w : World), TmV W t v → Below W.heap.size W w → Env w ns vs no vo n c d →
  Calls Try.prog 13 #[v, .slice no n c, .slice vo n d] w (VlR (evT (evE ns vs) t) w)
theorem val_fin (x : Int) : ∃ b1 b2 : Bool, decide (x < 1073741824) = b1 ∧ decide (-1073741824 < x) = b2 ∧ ((b1 && b2) = true → -1073741824 < x ∧ x < 1073741824) := by
  refine ⟨_, _, rfl, rfl, fun h => ?_⟩
  rw [Bool.and_eq_true, decide_eq_true_eq, decide_eq_true_eq] at h
  exact ⟨h.2, h.1⟩
set_option maxRecDepth 100000 in
set_option maxHeartbeats 4000000 in
theorem value_num (ns : List ByteArray) (vs : List Int) (no vo : Option Addr) (n c d : Nat) (z : Int) (hz : 0 ≤ z) : ValC ns vs no vo n c d (.mk 0 z emp []) := by
  rintro W v w ⟨c0, c1, c2, c3, rfl, hr⟩ hW hE
  rw [RdT] at hr
  obtain ⟨rfl, rfl, rfl, ⟨-, hi, -⟩, ao, cap, rfl, -, -, -⟩ := hr
  have HX := mkHid (ev_num (evE ns vs) z emp [])
  have hB := mkHid (bal w (.cells #[.int .i64 0, .int .i64 z, .string emp, .slice ao 0 cap] 35))
  by_cases h1 : z < 1073741824
  · have d1 : decide (z < 1073741824) = true := decide_eq_true h1
    have d2 : decide (-1073741824 < z) = true := decide_eq_true (by omega)
    go_enter Try.func13, Try.ntmps13
    go_wp2_with (fail)
    go_ret2
    exact ⟨z, true, rfl, fun _ => ⟨HX.out.symm, by omega, h1⟩, hB.out⟩
  · have d1 : decide (z < 1073741824) = false := decide_eq_false h1
    go_enter Try.func13, Try.ntmps13
    go_wp2_with (fail)
    go_ret2
    exact ⟨z, false, rfl, (fun e => by cases e), hB.out⟩
set_option maxRecDepth 100000 in
set_option maxHeartbeats 4000000 in
theorem value_name (ns : List ByteArray) (vs : List Int) (no vo : Option Addr) (n c d : Nat) (x : ByteArray) (hx : nmB x = true) : ValC ns vs no vo n c d (.mk 1 0 x []) := by
  rintro W v w ⟨c0, c1, c2, c3, rfl, hr⟩ hW hE
  rw [RdT] at hr
  obtain ⟨rfl, rfl, rfl, -, ao, cap, rfl, -, -, -⟩ := hr
  have HX := mkHid (ev_name (evE ns vs) 0 x [])
  have hB := bal w (.cells #[.int .i64 1, .int .i64 0, .string x, .slice ao 0 cap] 35)
  have hR := rb_new w #[.int .i64 1, .int .i64 0, .string x, .slice ao 0 cap] 35
  have hE1 := hE.below hB
  have hcn := hE.rd.lecap
  have hcx := hE.rd.lemax
  have hdn := hE.rv.lecap
  have hdx := hE.rv.lemax
  have HT : Hid (ns.length = n) := hE.rd.eqlen
  have HV : Hid (vs.length = n) := hE.rv.eqlen
  have HRI := mkHid hE.ris
  have HS : Hid (∀ y, -999 ≤ cof y ns vs ∧ cof y ns vs ≤ 999) := fun y => cof_in (Q := fun z => -999 ≤ z ∧ z ≤ 999) ⟨by decide, by decide⟩ y ns vs hE.sml
  clear hE
  go_enter Try.func13, Try.ntmps13
  go_wp2_with (fail)
  generalize w.alloc (.cells #[.int .i64 1, .int .i64 0, .string x, .slice ao 0 cap] 35) = w1 at hB hR hE1 ⊢
  have n2 : w1.cell? ⟨w.heap.size, 2, none⟩ = some (.string x) := (txcell (vs := #[.int .i64 1, .int .i64 0, .string x, .slice ao 0 cap]) hR 2 _ rfl).1
  go_loop [8, 72] (fun V i => ∃ (j : Nat) (z : Int), j ≤ n ∧ i = .int .i64 j ∧ V = .int .i64 z ∧ Hid ((∃ k, k < j ∧ ns.getD k emp = x) → z = cof x ns vs) ∧ Hid ((∀ k, k < j → ns.getD k emp ≠ x) → z = 0)) (fun V i => n - (intOf i).toNat)
  case atStart => exact ⟨0, 0, Nat.zero_le _, rfl, rfl, fun ⟨k, hk, _⟩ => absurd hk (by omega), fun _ => rfl⟩
  case round =>
    obtain ⟨j, z, hj, rfl, rfl, hin, hout⟩ := hrel
    by_cases hlt : j < n
    · obtain ⟨g, o, rfl, hc⟩ := hE1.rd.cell j hlt
      obtain ⟨g', o', rfl, hc'⟩ := hE1.rv.cell j hlt
      have HG : Hid (ns.getD j emp = x → vs.getD j 0 = cof x ns vs) := fun e => by
        rw [← e]; exact (cof_at HRI.out j (by rw [HT.out]; exact hlt) (by rw [HT.out, HV.out])).symm
      by_cases hx : ns.getD j emp = x
      · have hq : (x.toList == x.toList) = true := by simp
        have HV2 := mkHid (HG.out hx)
        have HE := mkHid hx
        rw [hx] at hc
        generalize vs.getD j 0 = y at hc' HV2
        clear hx HG hin hout
        go_wp2
        go_roundw
        case rel => exact ⟨j + 1, _, by omega, by go_num, rfl, fun _ => HV2.out, fun h => absurd HE.out (h j (by omega))⟩
        case measure => simp [intOf]; omega
      · have hq : ((ns.getD j emp).toList == x.toList) = false := by
          cases hz : ((ns.getD j emp).toList == x.toList) with
          | false => rfl
          | true => exact absurd ((eqS_iff _ _).1 hz) hx
        have HE := mkHid hx
        generalize hy : ns.getD j emp = y at hc hq
        have HI : Hid ((∃ k, k < j + 1 ∧ ns.getD k emp = x) → z = cof x ns vs) := fun ⟨k, hk, e⟩ => hin.out ⟨k, by
          rcases Nat.lt_or_ge k j with g | g
          · exact g
          · exact absurd e (by rw [show k = j from by omega]; exact HE.out), e⟩
        have HO : Hid ((∀ k, k < j + 1 → ns.getD k emp ≠ x) → z = 0) := fun h => hout.out (fun k hk => h k (by omega))
        clear hx hy HG hin hout
        go_wp2
        go_roundw
        case rel => exact ⟨j + 1, z, by omega, by go_num, rfl, HI, HO⟩
        case measure => simp [intOf]; omega
    · obtain rfl : j = n := by omega
      have hzv : z = cof x ns vs := by
        by_cases hm : x ∈ ns
        · obtain ⟨k, hk, e⟩ := mem_getD hm
          exact hin.out ⟨k, by rw [← HT.out]; exact hk, e⟩
        · rw [cof_none x ns vs hm]
          exact hout.out (fun k hk e => hm (by rw [← e, sgetD_of (by rw [HT.out]; exact hk)]; exact List.getElem_mem _))
      have hb := HS.out x
      rw [← hzv] at hb
      have d1 : decide (z < 1073741824) = true := decide_eq_true (by omega)
      have d2 : decide (-1073741824 < z) = true := decide_eq_true (by omega)
      have HZ := mkHid hzv
      clear hin hout hzv
      go_wp2
      go_ret2
      exact ⟨z, true, rfl, fun _ => ⟨HZ.out.trans HX.out.symm, by omega, by omega⟩, hB⟩
set_option maxRecDepth 100000 in
set_option maxHeartbeats 4000000 in
theorem value_neg (ns : List ByteArray) (vs : List Int) (no vo : Option Addr) (n c d : Nat) (t : Tm) (ih : ValC ns vs no vo n c d t) : ValC ns vs no vo n c d (.mk 2 0 emp [t]) := by
  rintro W v w ⟨c0, c1, c2, c3, rfl, hr⟩ hW hE
  rw [RdT] at hr
  obtain ⟨rfl, rfl, rfl, -, ao, cap, rfl, hcap, hcm, hk⟩ := hr
  obtain ⟨g, of, d0, d1, d2, d3, rfl, q0, q1, q2, q3, hrt, hg⟩ := one_kid hk
  have hcap' : 1 ≤ cap := hcap
  have HX := mkHid (ev_neg (evE ns vs) 0 emp t)
  have hB := bal w (.cells #[.int .i64 2, .int .i64 0, .string emp, .slice (some ⟨g, of, none⟩) 1 cap] 35)
  have hW2 := hW.trans (hB.mono hW.size)
  have C := mkHid (ih W (.agg #[d0, d1, d2, d3]) _ ⟨_, _, _, _, rfl, hrt⟩ hW2 (hE.below hB))
  have p0 := (hW2.cell (p := ⟨g, of, none⟩) hg).trans q0
  have p1 := (hW2.cell (p := ⟨g, of + 1, none⟩) hg).trans q1
  have p2 := (hW2.cell (p := ⟨g, of + 2, none⟩) hg).trans q2
  have p3 := (hW2.cell (p := ⟨g, of + 3, none⟩) hg).trans q3
  clear ih hk hrt q0 q1 q2 q3 hE
  go_enter Try.func13, Try.ntmps13
  go_wp2_with (fail)
  refine C.out.mono ?_
  rintro e w2 ⟨z, ok, rfl, hz, hB2⟩
  have hB3 := mkHid (bt2 hB hB2)
  clear C p0 p1 p2 p3 hB2
  cases ok with
  | true =>
    obtain ⟨hz1, hz2, hz3⟩ := hz rfl
    have HZ := mkHid hz1
    have hw1 : wrap64 (-z) = -z := by unfold wrap64; omega
    have e1 : decide (wrap64 (-z) < 1073741824) = true := decide_eq_true (by omega)
    have e2 : decide (-1073741824 < wrap64 (-z)) = true := decide_eq_true (by omega)
    have e3 : decide (-z < 1073741824) = true := decide_eq_true (by omega)
    have e5 : decide (z < 1073741824) = true := decide_eq_true (by omega)
    have e6 : decide (-1073741824 < z) = true := decide_eq_true (by omega)
    have e4 : decide (-1073741824 < -z) = true := decide_eq_true (by omega)
    have HR : Hid (wrap64 (-z) = evT (evE ns vs) (.mk 2 0 emp [t]) ∧ -1073741824 < wrap64 (-z) ∧ wrap64 (-z) < 1073741824) := ⟨by rw [hw1, HX.out, ← HZ.out], by omega, by omega⟩
    clear hz hz1 hz2 hz3 HX HZ
    go_wp2_with (fail)
    go_ret2
    exact ⟨_, true, rfl, fun _ => HR.out, hB3.out⟩
  | false =>
    clear hz
    go_wp2_with (fail)
    go_ret2
    exact ⟨_, false, rfl, (fun e => by cases e), hB3.out⟩
set_option maxRecDepth 100000 in
set_option maxHeartbeats 4000000 in
theorem value_two3 (ns : List ByteArray) (vs : List Int) (no vo : Option Addr) (n c d : Nat) (t u : Tm) (ih : ValC ns vs no vo n c d t) (ihu : ValC ns vs no vo n c d u) : ValC ns vs no vo n c d (.mk 3 0 emp [t, u]) := by
  rintro W v w ⟨c0, c1, c2, c3, rfl, hr⟩ hW hE
  rw [RdT] at hr
  obtain ⟨rfl, rfl, rfl, -, ao, cap, rfl, hcap, hcm, hk⟩ := hr
  obtain ⟨g, of, d0, d1, d2, d3, f0, f1, f2, f3, rfl, q0, q1, q2, q3, hrt, t0, t1, t2, t3, hru, hg⟩ := two_kids hk
  have hcap' : 2 ≤ cap := hcap
  have HX : Hid (evT (evE ns vs) (.mk 3 0 emp [t, u]) = evT (evE ns vs) t + evT (evE ns vs) u) := (ev_two (evE ns vs) (by decide) 0 emp t u).trans (if_pos rfl)
  have hB := bal w (.cells #[.int .i64 3, .int .i64 0, .string emp, .slice (some ⟨g, of, none⟩) 2 cap] 35)
  have hR := rb_new w #[.int .i64 3, .int .i64 0, .string emp, .slice (some ⟨g, of, none⟩) 2 cap] 35
  have hW2 := hW.trans (hB.mono hW.size)
  have C := mkHid (ih W (.agg #[d0, d1, d2, d3]) _ ⟨_, _, _, _, rfl, hrt⟩ hW2 (hE.below hB))
  have CU : Hid (∀ w', Below w.heap.size w w' → Calls Try.prog 13 #[.agg #[f0, f1, f2, f3], .slice no n c, .slice vo n d] w' (VlR (evT (evE ns vs) u) w')) := fun w' h => ihu W (.agg #[f0, f1, f2, f3]) w' ⟨_, _, _, _, rfl, hru⟩ (hW.trans (h.mono hW.size)) (hE.below h)
  have p0 := (hW2.cell (p := ⟨g, of, none⟩) hg).trans q0
  have p1 := (hW2.cell (p := ⟨g, of + 1, none⟩) hg).trans q1
  have p2 := (hW2.cell (p := ⟨g, of + 2, none⟩) hg).trans q2
  have p3 := (hW2.cell (p := ⟨g, of + 3, none⟩) hg).trans q3
  clear ih ihu hk hrt hru q0 q1 q2 q3 hE
  go_enter Try.func13, Try.ntmps13
  go_wp2_with (fail)
  refine C.out.mono ?_
  rintro e w2 ⟨z, ok, rfl, hz, hB2⟩
  have hW3 := hW2.trans (hB2.mono hW2.size)
  have hB3 := bt2 hB hB2
  have hR2 := hR.keep hB2
  have r0 : w2.cell? ⟨w.heap.size, 0, none⟩ = some (.int .i64 3) := (txcell (vs := #[.int .i64 3, .int .i64 0, .string emp, .slice (some ⟨g, of, none⟩) 2 cap]) hR2 0 _ rfl).1
  have r3 : w2.cell? ⟨w.heap.size, 3, none⟩ = some (.slice (some ⟨g, of, none⟩) 2 cap) := (txcell (vs := #[.int .i64 3, .int .i64 0, .string emp, .slice (some ⟨g, of, none⟩) 2 cap]) hR2 3 _ rfl).1
  have s0 := (hW3.cell (p := ⟨g, of + 4, none⟩) hg).trans t0
  have s1 := (hW3.cell (p := ⟨g, of + 5, none⟩) hg).trans t1
  have s2 := (hW3.cell (p := ⟨g, of + 6, none⟩) hg).trans t2
  have s3 := (hW3.cell (p := ⟨g, of + 7, none⟩) hg).trans t3
  clear C p0 p1 p2 p3 t0 t1 t2 t3 hW2
  go_wp2_with (fail)
  refine (CU.out w2 hB3).mono ?_
  rintro e w4 ⟨y, ok2, rfl, hy, hB4⟩
  have hB5 := mkHid (bt2 hB3 hB4)
  have hR4 := hR2.keep hB4
  have r0' : w4.cell? ⟨w.heap.size, 0, none⟩ = some (.int .i64 3) := (txcell (vs := #[.int .i64 3, .int .i64 0, .string emp, .slice (some ⟨g, of, none⟩) 2 cap]) hR4 0 _ rfl).1
  clear CU r0 r3 s0 s1 s2 s3
  cases ok with
  | false =>
    clear hz hy
    go_wp2_with (fail)
    go_ret2
    exact ⟨0, false, rfl, (fun e => by cases e), hB5.out⟩
  | true =>
    cases ok2 with
    | false =>
      clear hz hy
      go_wp2_with (fail)
      go_ret2
      exact ⟨0, false, rfl, (fun e => by cases e), hB5.out⟩
    | true =>
      obtain ⟨hz1, hz2, hz3⟩ := hz rfl
      obtain ⟨hy1, hy2, hy3⟩ := hy rfl
      have HV : Hid (z + y = evT (evE ns vs) (.mk 3 0 emp [t, u])) := by show _ = _; rw [HX.out, hz1, hy1]
      have hp : -2147483648 ≤ z + y ∧ z + y ≤ 2147483648 := by omega
      generalize hs : z + y = s at hp HV
      have hw : wrap64 s = s := by unfold wrap64; omega
      by_cases b1 : s < 1073741824
      · by_cases b2 : -1073741824 < s
        · have e1 : decide (wrap64 (z + y) < 1073741824) = true := by rw [hs, hw]; exact decide_eq_true b1
          have e2 : decide (-1073741824 < wrap64 (z + y)) = true := by rw [hs, hw]; exact decide_eq_true b2
          have e3 : decide (z + y < 1073741824) = true := by rw [hs]; exact decide_eq_true b1
          have e4 : decide (-1073741824 < z + y) = true := by rw [hs]; exact decide_eq_true b2
          have HR : Hid (∀ q, (q = wrap64 (z + y) ∨ q = z + y) → q = evT (evE ns vs) (.mk 3 0 emp [t, u]) ∧ -1073741824 < q ∧ q < 1073741824) := fun q hq => by
            have : q = s := by rcases hq with rfl | rfl; rw [hs, hw]; exact hs
            rw [this]; exact ⟨HV.out, b2, b1⟩
          clear hz hy hz1 hz2 hz3 hy1 hy2 hy3 HX HV hs hw b1 b2
          go_wp2_with (fail)
          go_ret2
          exact ⟨_, true, rfl, fun _ => HR.out _ (by first | exact .inl rfl | exact .inr rfl), hB5.out⟩
        · have e1 : decide (wrap64 (z + y) < 1073741824) = true := by rw [hs, hw]; exact decide_eq_true b1
          have e2 : decide (-1073741824 < wrap64 (z + y)) = false := by rw [hs, hw]; exact decide_eq_false b2
          have e3 : decide (z + y < 1073741824) = true := by rw [hs]; exact decide_eq_true b1
          have e4 : decide (-1073741824 < z + y) = false := by rw [hs]; exact decide_eq_false b2
          clear hz hy hz1 hz2 hz3 hy1 hy2 hy3 HX HV hs hw b1 b2
          go_wp2_with (fail)
          go_ret2
          exact ⟨_, false, rfl, (fun e => by cases e), hB5.out⟩
      · have e1 : decide (wrap64 (z + y) < 1073741824) = false := by rw [hs, hw]; exact decide_eq_false b1
        have e3 : decide (z + y < 1073741824) = false := by rw [hs]; exact decide_eq_false b1
        clear hz hy hz1 hz2 hz3 hy1 hy2 hy3 HX HV hs hw b1
        go_wp2_with (fail)
        go_ret2
        exact ⟨_, false, rfl, (fun e => by cases e), hB5.out⟩
set_option maxRecDepth 100000 in
set_option maxHeartbeats 4000000 in
theorem value_two4 (ns : List ByteArray) (vs : List Int) (no vo : Option Addr) (n c d : Nat) (t u : Tm) (ih : ValC ns vs no vo n c d t) (ihu : ValC ns vs no vo n c d u) : ValC ns vs no vo n c d (.mk 4 0 emp [t, u]) := by
  rintro W v w ⟨c0, c1, c2, c3, rfl, hr⟩ hW hE
  rw [RdT] at hr
  obtain ⟨rfl, rfl, rfl, -, ao, cap, rfl, hcap, hcm, hk⟩ := hr
  obtain ⟨g, of, d0, d1, d2, d3, f0, f1, f2, f3, rfl, q0, q1, q2, q3, hrt, t0, t1, t2, t3, hru, hg⟩ := two_kids hk
  have hcap' : 2 ≤ cap := hcap
  have HX : Hid (evT (evE ns vs) (.mk 4 0 emp [t, u]) = evT (evE ns vs) t - evT (evE ns vs) u) := (ev_two (evE ns vs) (by decide) 0 emp t u).trans ((if_neg (by decide)).trans (if_pos rfl))
  have hB := bal w (.cells #[.int .i64 4, .int .i64 0, .string emp, .slice (some ⟨g, of, none⟩) 2 cap] 35)
  have hR := rb_new w #[.int .i64 4, .int .i64 0, .string emp, .slice (some ⟨g, of, none⟩) 2 cap] 35
  have hW2 := hW.trans (hB.mono hW.size)
  have C := mkHid (ih W (.agg #[d0, d1, d2, d3]) _ ⟨_, _, _, _, rfl, hrt⟩ hW2 (hE.below hB))
  have CU : Hid (∀ w', Below w.heap.size w w' → Calls Try.prog 13 #[.agg #[f0, f1, f2, f3], .slice no n c, .slice vo n d] w' (VlR (evT (evE ns vs) u) w')) := fun w' h => ihu W (.agg #[f0, f1, f2, f3]) w' ⟨_, _, _, _, rfl, hru⟩ (hW.trans (h.mono hW.size)) (hE.below h)
  have p0 := (hW2.cell (p := ⟨g, of, none⟩) hg).trans q0
  have p1 := (hW2.cell (p := ⟨g, of + 1, none⟩) hg).trans q1
  have p2 := (hW2.cell (p := ⟨g, of + 2, none⟩) hg).trans q2
  have p3 := (hW2.cell (p := ⟨g, of + 3, none⟩) hg).trans q3
  clear ih ihu hk hrt hru q0 q1 q2 q3 hE
  go_enter Try.func13, Try.ntmps13
  go_wp2_with (fail)
  refine C.out.mono ?_
  rintro e w2 ⟨z, ok, rfl, hz, hB2⟩
  have hW3 := hW2.trans (hB2.mono hW2.size)
  have hB3 := bt2 hB hB2
  have hR2 := hR.keep hB2
  have r0 : w2.cell? ⟨w.heap.size, 0, none⟩ = some (.int .i64 4) := (txcell (vs := #[.int .i64 4, .int .i64 0, .string emp, .slice (some ⟨g, of, none⟩) 2 cap]) hR2 0 _ rfl).1
  have r3 : w2.cell? ⟨w.heap.size, 3, none⟩ = some (.slice (some ⟨g, of, none⟩) 2 cap) := (txcell (vs := #[.int .i64 4, .int .i64 0, .string emp, .slice (some ⟨g, of, none⟩) 2 cap]) hR2 3 _ rfl).1
  have s0 := (hW3.cell (p := ⟨g, of + 4, none⟩) hg).trans t0
  have s1 := (hW3.cell (p := ⟨g, of + 5, none⟩) hg).trans t1
  have s2 := (hW3.cell (p := ⟨g, of + 6, none⟩) hg).trans t2
  have s3 := (hW3.cell (p := ⟨g, of + 7, none⟩) hg).trans t3
  clear C p0 p1 p2 p3 t0 t1 t2 t3 hW2
  go_wp2_with (fail)
  refine (CU.out w2 hB3).mono ?_
  rintro e w4 ⟨y, ok2, rfl, hy, hB4⟩
  have hB5 := mkHid (bt2 hB3 hB4)
  have hR4 := hR2.keep hB4
  have r0' : w4.cell? ⟨w.heap.size, 0, none⟩ = some (.int .i64 4) := (txcell (vs := #[.int .i64 4, .int .i64 0, .string emp, .slice (some ⟨g, of, none⟩) 2 cap]) hR4 0 _ rfl).1
  clear CU r0 r3 s0 s1 s2 s3
  cases ok with
  | false =>
    clear hz hy
    go_wp2_with (fail)
    go_ret2
    exact ⟨0, false, rfl, (fun e => by cases e), hB5.out⟩
  | true =>
    cases ok2 with
    | false =>
      clear hz hy
      go_wp2_with (fail)
      go_ret2
      exact ⟨0, false, rfl, (fun e => by cases e), hB5.out⟩
    | true =>
      obtain ⟨hz1, hz2, hz3⟩ := hz rfl
      obtain ⟨hy1, hy2, hy3⟩ := hy rfl
      have HV : Hid (z - y = evT (evE ns vs) (.mk 4 0 emp [t, u])) := by show _ = _; rw [HX.out, hz1, hy1]
      have hp : -2147483648 ≤ z - y ∧ z - y ≤ 2147483648 := by omega
      generalize hs : z - y = s at hp HV
      have hw : wrap64 s = s := by unfold wrap64; omega
      by_cases b1 : s < 1073741824
      · by_cases b2 : -1073741824 < s
        · have e1 : decide (wrap64 (z - y) < 1073741824) = true := by rw [hs, hw]; exact decide_eq_true b1
          have e2 : decide (-1073741824 < wrap64 (z - y)) = true := by rw [hs, hw]; exact decide_eq_true b2
          have e3 : decide (z - y < 1073741824) = true := by rw [hs]; exact decide_eq_true b1
          have e4 : decide (-1073741824 < z - y) = true := by rw [hs]; exact decide_eq_true b2
          have HR : Hid (∀ q, (q = wrap64 (z - y) ∨ q = z - y) → q = evT (evE ns vs) (.mk 4 0 emp [t, u]) ∧ -1073741824 < q ∧ q < 1073741824) := fun q hq => by
            have : q = s := by rcases hq with rfl | rfl; rw [hs, hw]; exact hs
            rw [this]; exact ⟨HV.out, b2, b1⟩
          clear hz hy hz1 hz2 hz3 hy1 hy2 hy3 HX HV hs hw b1 b2
          go_wp2_with (fail)
          go_ret2
          exact ⟨_, true, rfl, fun _ => HR.out _ (by first | exact .inl rfl | exact .inr rfl), hB5.out⟩
        · have e1 : decide (wrap64 (z - y) < 1073741824) = true := by rw [hs, hw]; exact decide_eq_true b1
          have e2 : decide (-1073741824 < wrap64 (z - y)) = false := by rw [hs, hw]; exact decide_eq_false b2
          have e3 : decide (z - y < 1073741824) = true := by rw [hs]; exact decide_eq_true b1
          have e4 : decide (-1073741824 < z - y) = false := by rw [hs]; exact decide_eq_false b2
          clear hz hy hz1 hz2 hz3 hy1 hy2 hy3 HX HV hs hw b1 b2
          go_wp2_with (fail)
          go_ret2
          exact ⟨_, false, rfl, (fun e => by cases e), hB5.out⟩
      · have e1 : decide (wrap64 (z - y) < 1073741824) = false := by rw [hs, hw]; exact decide_eq_false b1
        have e3 : decide (z - y < 1073741824) = false := by rw [hs]; exact decide_eq_false b1
        clear hz hy hz1 hz2 hz3 hy1 hy2 hy3 HX HV hs hw b1
        go_wp2_with (fail)
        go_ret2
        exact ⟨_, false, rfl, (fun e => by cases e), hB5.out⟩
set_option maxRecDepth 100000 in
set_option maxHeartbeats 4000000 in
theorem value_two5 (ns : List ByteArray) (vs : List Int) (no vo : Option Addr) (n c d : Nat) (t u : Tm) (ih : ValC ns vs no vo n c d t) (ihu : ValC ns vs no vo n c d u) : ValC ns vs no vo n c d (.mk 5 0 emp [t, u]) := by
  rintro W v w ⟨c0, c1, c2, c3, rfl, hr⟩ hW hE
  rw [RdT] at hr
  obtain ⟨rfl, rfl, rfl, -, ao, cap, rfl, hcap, hcm, hk⟩ := hr
  obtain ⟨g, of, d0, d1, d2, d3, f0, f1, f2, f3, rfl, q0, q1, q2, q3, hrt, t0, t1, t2, t3, hru, hg⟩ := two_kids hk
  have hcap' : 2 ≤ cap := hcap
  have HX : Hid (evT (evE ns vs) (.mk 5 0 emp [t, u]) = evT (evE ns vs) t * evT (evE ns vs) u) := (ev_two (evE ns vs) (by decide) 0 emp t u).trans ((if_neg (by decide)).trans (if_neg (by decide)))
  have hB := bal w (.cells #[.int .i64 5, .int .i64 0, .string emp, .slice (some ⟨g, of, none⟩) 2 cap] 35)
  have hR := rb_new w #[.int .i64 5, .int .i64 0, .string emp, .slice (some ⟨g, of, none⟩) 2 cap] 35
  have hW2 := hW.trans (hB.mono hW.size)
  have C := mkHid (ih W (.agg #[d0, d1, d2, d3]) _ ⟨_, _, _, _, rfl, hrt⟩ hW2 (hE.below hB))
  have CU : Hid (∀ w', Below w.heap.size w w' → Calls Try.prog 13 #[.agg #[f0, f1, f2, f3], .slice no n c, .slice vo n d] w' (VlR (evT (evE ns vs) u) w')) := fun w' h => ihu W (.agg #[f0, f1, f2, f3]) w' ⟨_, _, _, _, rfl, hru⟩ (hW.trans (h.mono hW.size)) (hE.below h)
  have p0 := (hW2.cell (p := ⟨g, of, none⟩) hg).trans q0
  have p1 := (hW2.cell (p := ⟨g, of + 1, none⟩) hg).trans q1
  have p2 := (hW2.cell (p := ⟨g, of + 2, none⟩) hg).trans q2
  have p3 := (hW2.cell (p := ⟨g, of + 3, none⟩) hg).trans q3
  clear ih ihu hk hrt hru q0 q1 q2 q3 hE
  go_enter Try.func13, Try.ntmps13
  go_wp2_with (fail)
  refine C.out.mono ?_
  rintro e w2 ⟨z, ok, rfl, hz, hB2⟩
  have hW3 := hW2.trans (hB2.mono hW2.size)
  have hB3 := bt2 hB hB2
  have hR2 := hR.keep hB2
  have r0 : w2.cell? ⟨w.heap.size, 0, none⟩ = some (.int .i64 5) := (txcell (vs := #[.int .i64 5, .int .i64 0, .string emp, .slice (some ⟨g, of, none⟩) 2 cap]) hR2 0 _ rfl).1
  have r3 : w2.cell? ⟨w.heap.size, 3, none⟩ = some (.slice (some ⟨g, of, none⟩) 2 cap) := (txcell (vs := #[.int .i64 5, .int .i64 0, .string emp, .slice (some ⟨g, of, none⟩) 2 cap]) hR2 3 _ rfl).1
  have s0 := (hW3.cell (p := ⟨g, of + 4, none⟩) hg).trans t0
  have s1 := (hW3.cell (p := ⟨g, of + 5, none⟩) hg).trans t1
  have s2 := (hW3.cell (p := ⟨g, of + 6, none⟩) hg).trans t2
  have s3 := (hW3.cell (p := ⟨g, of + 7, none⟩) hg).trans t3
  clear C p0 p1 p2 p3 t0 t1 t2 t3 hW2
  go_wp2_with (fail)
  refine (CU.out w2 hB3).mono ?_
  rintro e w4 ⟨y, ok2, rfl, hy, hB4⟩
  have hB5 := mkHid (bt2 hB3 hB4)
  have hR4 := hR2.keep hB4
  have r0' : w4.cell? ⟨w.heap.size, 0, none⟩ = some (.int .i64 5) := (txcell (vs := #[.int .i64 5, .int .i64 0, .string emp, .slice (some ⟨g, of, none⟩) 2 cap]) hR4 0 _ rfl).1
  clear CU r0 r3 s0 s1 s2 s3
  cases ok with
  | false =>
    clear hz hy
    go_wp2_with (fail)
    go_ret2
    exact ⟨0, false, rfl, (fun e => by cases e), hB5.out⟩
  | true =>
    cases ok2 with
    | false =>
      clear hz hy
      go_wp2_with (fail)
      go_ret2
      exact ⟨0, false, rfl, (fun e => by cases e), hB5.out⟩
    | true =>
      obtain ⟨hz1, hz2, hz3⟩ := hz rfl
      obtain ⟨hy1, hy2, hy3⟩ := hy rfl
      have hp : (z * y).natAbs ≤ 1073741824 * 1073741824 := by
        rw [Int.natAbs_mul]
        exact Nat.mul_le_mul (by omega) (by omega)
      have HV : Hid (z * y = evT (evE ns vs) (.mk 5 0 emp [t, u])) := by show _ = _; rw [HX.out, hz1, hy1]
      generalize hs : z * y = s at hp HV
      have hw : wrap64 s = s := by unfold wrap64; omega
      by_cases b1 : s < 1073741824
      · by_cases b2 : -1073741824 < s
        · have e1 : decide (wrap64 (z * y) < 1073741824) = true := by rw [hs, hw]; exact decide_eq_true b1
          have e2 : decide (-1073741824 < wrap64 (z * y)) = true := by rw [hs, hw]; exact decide_eq_true b2
          have e3 : decide (z * y < 1073741824) = true := by rw [hs]; exact decide_eq_true b1
          have e4 : decide (-1073741824 < z * y) = true := by rw [hs]; exact decide_eq_true b2
          have HR : Hid (∀ q, (q = wrap64 (z * y) ∨ q = z * y) → q = evT (evE ns vs) (.mk 5 0 emp [t, u]) ∧ -1073741824 < q ∧ q < 1073741824) := fun q hq => by
            have : q = s := by rcases hq with rfl | rfl; rw [hs, hw]; exact hs
            rw [this]; exact ⟨HV.out, b2, b1⟩
          clear hz hy hz1 hz2 hz3 hy1 hy2 hy3 HX HV hs hw b1 b2
          go_wp2_with (fail)
          go_ret2
          exact ⟨_, true, rfl, fun _ => HR.out _ (by first | exact .inl rfl | exact .inr rfl), hB5.out⟩
        · have e1 : decide (wrap64 (z * y) < 1073741824) = true := by rw [hs, hw]; exact decide_eq_true b1
          have e2 : decide (-1073741824 < wrap64 (z * y)) = false := by rw [hs, hw]; exact decide_eq_false b2
          have e3 : decide (z * y < 1073741824) = true := by rw [hs]; exact decide_eq_true b1
          have e4 : decide (-1073741824 < z * y) = false := by rw [hs]; exact decide_eq_false b2
          clear hz hy hz1 hz2 hz3 hy1 hy2 hy3 HX HV hs hw b1 b2
          go_wp2_with (fail)
          go_ret2
          exact ⟨_, false, rfl, (fun e => by cases e), hB5.out⟩
      · have e1 : decide (wrap64 (z * y) < 1073741824) = false := by rw [hs, hw]; exact decide_eq_false b1
        have e3 : decide (z * y < 1073741824) = false := by rw [hs]; exact decide_eq_false b1
        clear hz hy hz1 hz2 hz3 hy1 hy2 hy3 HX HV hs hw b1
        go_wp2_with (fail)
        go_ret2
        exact ⟨_, false, rfl, (fun e => by cases e), hB5.out⟩
theorem value_at (ns : List ByteArray) (vs : List Int) (no vo : Option Addr) (n c d : Nat) : ∀ t, t.all (wellT nmB) = true → ValC ns vs no vo n c d t := wt_ind (value_num ns vs no vo n c d) (value_name ns vs no vo n c d) (fun t _ ih => value_neg ns vs no vo n c d t ih) (fun o t u ho _ _ iht ihu => by
  rcases ho with rfl | rfl | rfl
  · exact value_two3 ns vs no vo n c d t u iht ihu
  · exact value_two4 ns vs no vo n c d t u iht ihu
  · exact value_two5 ns vs no vo n c d t u iht ihu)
end Go.Proofs.Ytiapkblebbcfbaa.Gl
