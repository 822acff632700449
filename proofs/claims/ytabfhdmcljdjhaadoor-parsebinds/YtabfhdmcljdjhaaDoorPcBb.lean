/- ParseBinds. -/
import Derived.Test.YtabfhdmcljdjhaaDoorPcY
import Derived.Test.YtabfhdmcljdjhaaDoorPcBa
namespace Go.Proofs.YtabfhdmcljdjhaaDoor.Gl
open Go.RowKit
set_option linter.unusedVariables false
set_option linter.unusedSimpArgs false

set_option maxHeartbeats 2000000 in
theorem st_bs9 {o : Oper} {a : Act} {w : World} {t0 t1 t2 t3 t4 t5 t6 t7 t8 : Nat} {x0 x1 x2 x3 x4 x5 x6 x7 x8 : C5} {K : Act → World → Prop} {Q : Exit → Act → World → Prop} (ho : o.op = .buildSlice 25 9 #[(0, .tmp t0), (1, .tmp t1), (2, .tmp t2), (3, .tmp t3), (4, .tmp t4), (5, .tmp t5), (6, .tmp t6), (7, .tmp t7), (8, .tmp t8)]) (h0 : a.tmps[t0]? = some (.agg #[.int .i64 x0.o, .string x0.xs, .int .i64 x0.m, .slice x0.bo x0.n1 x0.c1, .slice x0.ao x0.n x0.c])) (h1 : a.tmps[t1]? = some (.agg #[.int .i64 x1.o, .string x1.xs, .int .i64 x1.m, .slice x1.bo x1.n1 x1.c1, .slice x1.ao x1.n x1.c])) (h2 : a.tmps[t2]? = some (.agg #[.int .i64 x2.o, .string x2.xs, .int .i64 x2.m, .slice x2.bo x2.n1 x2.c1, .slice x2.ao x2.n x2.c])) (h3 : a.tmps[t3]? = some (.agg #[.int .i64 x3.o, .string x3.xs, .int .i64 x3.m, .slice x3.bo x3.n1 x3.c1, .slice x3.ao x3.n x3.c])) (h4 : a.tmps[t4]? = some (.agg #[.int .i64 x4.o, .string x4.xs, .int .i64 x4.m, .slice x4.bo x4.n1 x4.c1, .slice x4.ao x4.n x4.c])) (h5 : a.tmps[t5]? = some (.agg #[.int .i64 x5.o, .string x5.xs, .int .i64 x5.m, .slice x5.bo x5.n1 x5.c1, .slice x5.ao x5.n x5.c])) (h6 : a.tmps[t6]? = some (.agg #[.int .i64 x6.o, .string x6.xs, .int .i64 x6.m, .slice x6.bo x6.n1 x6.c1, .slice x6.ao x6.n x6.c])) (h7 : a.tmps[t7]? = some (.agg #[.int .i64 x7.o, .string x7.xs, .int .i64 x7.m, .slice x7.bo x7.n1 x7.c1, .slice x7.ao x7.n x7.c])) (h8 : a.tmps[t8]? = some (.agg #[.int .i64 x8.o, .string x8.xs, .int .i64 x8.m, .slice x8.bo x8.n1 x8.c1, .slice x8.ao x8.n x8.c]))
    (hK : K (a.put o.dst (.slice (some ⟨w.heap.size, 0, none⟩) 9 9)) (w.alloc (.cells ([x0, x1, x2, x3, x4, x5, x6, x7, x8].flatMap C5.cells).toArray 27))) : o.wp Tryd.prog a w K Q := by
  have p0 := eval_tmp h0
  have p1 := eval_tmp h1
  have p2 := eval_tmp h2
  have p3 := eval_tmp h3
  have p4 := eval_tmp h4
  have p5 := eval_tmp h5
  have p6 := eval_tmp h6
  have p7 := eval_tmp h7
  have p8 := eval_tmp h8
  obtain ⟨a0, b0, c0, d0, e0, f0, g0, k0, m0⟩ := x0
  obtain ⟨a1, b1, c1, d1, e1, f1, g1, k1, m1⟩ := x1
  obtain ⟨a2, b2, c2, d2, e2, f2, g2, k2, m2⟩ := x2
  obtain ⟨a3, b3, c3, d3, e3, f3, g3, k3, m3⟩ := x3
  obtain ⟨a4, b4, c4, d4, e4, f4, g4, k4, m4⟩ := x4
  obtain ⟨a5, b5, c5, d5, e5, f5, g5, k5, m5⟩ := x5
  obtain ⟨a6, b6, c6, d6, e6, f6, g6, k6, m6⟩ := x6
  obtain ⟨a7, b7, c7, d7, e7, f7, g7, k7, m7⟩ := x7
  obtain ⟨a8, b8, c8, d8, e8, f8, g8, k8, m8⟩ := x8
  have hK' : K (a.put o.dst (.slice (some ⟨w.heap.size, 0, none⟩) 9 9)) (w.alloc (.cells #[.int .i64 a0, .string b0, .int .i64 c0, .slice d0 e0 f0, .slice g0 k0 m0, .int .i64 a1, .string b1, .int .i64 c1, .slice d1 e1 f1, .slice g1 k1 m1, .int .i64 a2, .string b2, .int .i64 c2, .slice d2 e2 f2, .slice g2 k2 m2, .int .i64 a3, .string b3, .int .i64 c3, .slice d3 e3 f3, .slice g3 k3 m3, .int .i64 a4, .string b4, .int .i64 c4, .slice d4 e4 f4, .slice g4 k4 m4, .int .i64 a5, .string b5, .int .i64 c5, .slice d5 e5 f5, .slice g5 k5 m5, .int .i64 a6, .string b6, .int .i64 c6, .slice d6 e6 f6, .slice g6 k6 m6, .int .i64 a7, .string b7, .int .i64 c7, .slice d7 e7 f7, .slice g7 k7 m7, .int .i64 a8, .string b8, .int .i64 c8, .slice d8 e8 f8, .slice g8 k8 m8] 27)) := hK
  clear hK
  obtain ⟨d, op, ty', pos, af, gd⟩ := o
  simp only at ho
  subst ho
  unfold Oper.wp
  simp only [execOp, List.map_toArray, List.map_cons, List.map_nil, p0, p1, p2, p3, p4, p5, p6, p7, p8]
  go_simp
  exact hK'
theorem right_all {s : ByteArray} {o : Option Fm} {c b k : Nat} (hs : An s o c b k) (w : World) (hS : Sg w) (h1 : s.size ≤ 9223372036854775807) : Calls Tryd.prog 7 #[.string s] w fun e w' => ∃ v, e = .returned (.tuple #[v, .bool (decide (c = 0))]) ∧ FmA w.heap.size w' o v ∧ Below w.heap.size w w' := by
  rcases hs.kinds with ⟨rfl, f, rfl, _⟩ | ⟨h0, _⟩
  · obtain ⟨_, _, _, _, _, rfl, rfl⟩ := hs.small
    exact right_yes hs w hS h1
  · rw [decide_eq_false h0]; exact right_no hs h0 w hS h1
set_option maxRecDepth 100000 in
set_option maxHeartbeats 2000000 in
theorem binds_no (s t r : ByteArray) (w : World) (hS : Sg w) (h1 : s.size ≤ 9223372036854775807) (h2 : t.size ≤ 9223372036854775807) (h3 : r.size ≤ 9223372036854775807) {o o' o2 : Option Fm} {c b k c' b' k' c2 b2 k2 : Nat} (hs : An s o c b k) (ht : An t o' c' b' k') (hr : An r o2 c2 b2 k2) (hn : c ≠ 0 ∨ c' ≠ 0 ∨ c2 ≠ 0) :
    Calls Tryd.prog 4 #[.string s, .string t, .string r] w fun e w' => e = .returned (.bool true) ∧ Below w.heap.size w w' := by
  have FX := mkHid lfixed_at
  have R1 := mkHid (fun w hS => right_all hs w hS h1)
  have R2 := mkHid (fun w hS => right_all ht w hS h2)
  have R3 := mkHid (fun w hS => right_all hr w hS h3)
  obtain ⟨p, hp⟩ : ∃ p, decide (c = 0) = p := ⟨_, rfl⟩
  obtain ⟨p', hp'⟩ : ∃ p, decide (c' = 0) = p := ⟨_, rfl⟩
  obtain ⟨p2, hp2⟩ : ∃ p, decide (c2 = 0) = p := ⟨_, rfl⟩
  have hpp : p = false ∨ (p = true ∧ p' = false) ∨ (p = true ∧ p' = true ∧ p2 = false) := by
    subst hp hp' hp2
    simp only [decide_eq_false_iff_not, decide_eq_true_eq]
    omega
  rw [hp] at R1
  rw [hp'] at R2
  rw [hp2] at R3
  clear hs ht hr hn hp hp' hp2
  rcases hpp with rfl | ⟨rfl, rfl⟩ | ⟨rfl, rfl, rfl⟩
  all_goals
    go_enter Tryd.func4, Tryd.ntmps4
    go_wp2_with (go_at_call 6; refine (FX.out _ hS).mono ?_; rintro e w1 ⟨rfl, hB1⟩)
    refine (R1.out _ (hS.below hB1)).mono ?_
    rintro e w2 ⟨v, rfl, ⟨opa, xsa, ma, boa, n1a, c1a, loa, lna, lca, rfl, -, -⟩, hB2⟩
    go_wp2_with (fail)
    refine (R2.out _ ((hS.below (bt2 hB1 hB2)).alloc _)).mono ?_
    rintro e w4 ⟨v2, rfl, ⟨opb, xsb, mb, bob, n1b, c1b, lob, lnb, lcb, rfl, -, -⟩, hB4⟩
    go_wp2_with (fail)
    refine (R3.out _ ((((hS.below (bt2 hB1 hB2)).alloc _).below hB4).alloc _)).mono ?_
    rintro e w6 ⟨v3, rfl, ⟨opc, xsc, mc, boc, n1c, c1c, loc, lnc, lcc, rfl, -, -⟩, hB6⟩
    go_wp2
    go_ret
    exact ⟨rfl, bta (bt2 (bta (bt2 (bta (bt2 hB1 hB2) _) hB4) _) hB6) _⟩
theorem z_app {a b : ByteArray} {m n : Nat} (ha : a.size ≤ m) (hb : b.size ≤ n) : (a ++ b).size ≤ m + n := by
  rw [ByteArray.size_append]; omega
theorem cs9 (k : Nat) (h : k < 9) : k = 0 ∨ k = 1 ∨ k = 2 ∨ k = 3 ∨ k = 4 ∨ k = 5 ∨ k = 6 ∨ k = 7 ∨ k = 8 := by omega
theorem cs63 (k : Nat) (h : k < 63) : k = 0 ∨ k = 1 ∨ k = 2 ∨ k = 3 ∨ k = 4 ∨ k = 5 ∨ k = 6 ∨ k = 7 ∨ k = 8 ∨ k = 9 ∨ k = 10 ∨ k = 11 ∨ k = 12 ∨ k = 13 ∨ k = 14 ∨ k = 15 ∨ k = 16 ∨ k = 17 ∨ k = 18 ∨ k = 19 ∨ k = 20 ∨ k = 21 ∨ k = 22 ∨ k = 23 ∨ k = 24 ∨ k = 25 ∨ k = 26 ∨ k = 27 ∨ k = 28 ∨ k = 29 ∨ k = 30 ∨ k = 31 ∨ k = 32 ∨ k = 33 ∨ k = 34 ∨ k = 35 ∨ k = 36 ∨ k = 37 ∨ k = 38 ∨ k = 39 ∨ k = 40 ∨ k = 41 ∨ k = 42 ∨ k = 43 ∨ k = 44 ∨ k = 45 ∨ k = 46 ∨ k = 47 ∨ k = 48 ∨ k = 49 ∨ k = 50 ∨ k = 51 ∨ k = 52 ∨ k = 53 ∨ k = 54 ∨ k = 55 ∨ k = 56 ∨ k = 57 ∨ k = 58 ∨ k = 59 ∨ k = 60 ∨ k = 61 ∨ k = 62 := by omega
set_option maxRecDepth 100000 in
theorem binds_rd {s t r : ByteArray} {f g h : Fm} (hs : An s (some f) 0 0 0) (ht : An t (some g) 0 0 0) (hr : An r (some h) 0 0 0) (zs1 : s.size ≤ 4096) (zt1 : t.size ≤ 4096) (zr1 : r.size ≤ 4096) : ∀ k, k < 9 → ∃ u T, (#[.string (inB s ++ kOr ++ inB t ++ kAnd ++ inB r), .string (inB s ++ kAnd ++ inB t ++ kOr ++ inB r), .string (inB s ++ kTo ++ inB t ++ kOr ++ inB r), .string (inB s ++ kIff ++ inB t ++ kTo ++ inB r), .string (inB s ++ kTo ++ inB t ++ kTo ++ inB r), .string (inB s ++ kAnd ++ inB t ++ kAnd ++ inB r), .string (inB s ++ kIff ++ inB t ++ kIff ++ inB r), .string (kNot ++ inB s ++ kAnd ++ inB t), .string ((⟨#[101, 120, 32, 120, 46]⟩ : ByteArray) ++ inB s ++ kOr ++ inB t)] : Array Value)[k]? = some (.string u) ∧ ([(fPair 4 f (fPair 3 g h)), (fPair 4 (fPair 3 f g) h), (fPair 5 f (fPair 4 g h)), (fPair 6 f (fPair 5 g h)), (fPair 5 f (fPair 5 g h)), (fPair 3 (fPair 3 f g) h), (fPair 6 (fPair 6 f g) h), (fPair 3 (fNot f) g), (fPair 4 (fQ 7 kX f) g)] : List Fm)[k]? = some T ∧ Reads u T ∧ u.size ≤ 9223372036854775807 := by
  have zs0 : (kOpen ++ s).size ≤ 4097 := by rw [ByteArray.size_append]; have : kOpen.size = 1 := rfl; omega
  have zs : (inB s).size ≤ 4098 := by show (kOpen ++ s ++ kShut).size ≤ 4097 + 1; exact z_app zs0 (Nat.le_refl 1)
  have zt0 : (kOpen ++ t).size ≤ 4097 := by rw [ByteArray.size_append]; have : kOpen.size = 1 := rfl; omega
  have zt : (inB t).size ≤ 4098 := by show (kOpen ++ t ++ kShut).size ≤ 4097 + 1; exact z_app zt0 (Nat.le_refl 1)
  have zr0 : (kOpen ++ r).size ≤ 4097 := by rw [ByteArray.size_append]; have : kOpen.size = 1 := rfl; omega
  have zr : (inB r).size ≤ 4098 := by show (kOpen ++ r ++ kShut).size ≤ 4097 + 1; exact z_app zr0 (Nat.le_refl 1)
  have y1 : (inB s ++ kOr).size ≤ 4100 := z_app (m := 4098) (n := 2) zs (Nat.le_refl 2)
  have y2 : (inB s ++ kOr ++ inB t).size ≤ 8198 := z_app (m := 4100) (n := 4098) y1 zt
  have y3 : (inB s ++ kOr ++ inB t ++ kAnd).size ≤ 8201 := z_app (m := 8198) (n := 3) y2 (Nat.le_refl 3)
  have y4 : (inB s ++ kOr ++ inB t ++ kAnd ++ inB r).size ≤ 12299 := z_app (m := 8201) (n := 4098) y3 zr
  have y5 : (inB s ++ kAnd).size ≤ 4101 := z_app (m := 4098) (n := 3) zs (Nat.le_refl 3)
  have y6 : (inB s ++ kAnd ++ inB t).size ≤ 8199 := z_app (m := 4101) (n := 4098) y5 zt
  have y7 : (inB s ++ kAnd ++ inB t ++ kOr).size ≤ 8201 := z_app (m := 8199) (n := 2) y6 (Nat.le_refl 2)
  have y8 : (inB s ++ kAnd ++ inB t ++ kOr ++ inB r).size ≤ 12299 := z_app (m := 8201) (n := 4098) y7 zr
  have y9 : (inB s ++ kTo).size ≤ 4100 := z_app (m := 4098) (n := 2) zs (Nat.le_refl 2)
  have y10 : (inB s ++ kTo ++ inB t).size ≤ 8198 := z_app (m := 4100) (n := 4098) y9 zt
  have y11 : (inB s ++ kTo ++ inB t ++ kOr).size ≤ 8200 := z_app (m := 8198) (n := 2) y10 (Nat.le_refl 2)
  have y12 : (inB s ++ kTo ++ inB t ++ kOr ++ inB r).size ≤ 12298 := z_app (m := 8200) (n := 4098) y11 zr
  have y13 : (inB s ++ kIff).size ≤ 4101 := z_app (m := 4098) (n := 3) zs (Nat.le_refl 3)
  have y14 : (inB s ++ kIff ++ inB t).size ≤ 8199 := z_app (m := 4101) (n := 4098) y13 zt
  have y15 : (inB s ++ kIff ++ inB t ++ kTo).size ≤ 8201 := z_app (m := 8199) (n := 2) y14 (Nat.le_refl 2)
  have y16 : (inB s ++ kIff ++ inB t ++ kTo ++ inB r).size ≤ 12299 := z_app (m := 8201) (n := 4098) y15 zr
  have y17 : (inB s ++ kTo ++ inB t ++ kTo).size ≤ 8200 := z_app (m := 8198) (n := 2) y10 (Nat.le_refl 2)
  have y18 : (inB s ++ kTo ++ inB t ++ kTo ++ inB r).size ≤ 12298 := z_app (m := 8200) (n := 4098) y17 zr
  have y19 : (inB s ++ kAnd ++ inB t ++ kAnd).size ≤ 8202 := z_app (m := 8199) (n := 3) y6 (Nat.le_refl 3)
  have y20 : (inB s ++ kAnd ++ inB t ++ kAnd ++ inB r).size ≤ 12300 := z_app (m := 8202) (n := 4098) y19 zr
  have y21 : (inB s ++ kIff ++ inB t ++ kIff).size ≤ 8202 := z_app (m := 8199) (n := 3) y14 (Nat.le_refl 3)
  have y22 : (inB s ++ kIff ++ inB t ++ kIff ++ inB r).size ≤ 12300 := z_app (m := 8202) (n := 4098) y21 zr
  have y23 : (kNot ++ inB s).size ≤ 4101 := z_app (m := 3) (n := 4098) (Nat.le_refl 3) zs
  have y24 : (kNot ++ inB s ++ kAnd).size ≤ 4104 := z_app (m := 4101) (n := 3) y23 (Nat.le_refl 3)
  have y25 : (kNot ++ inB s ++ kAnd ++ inB t).size ≤ 8202 := z_app (m := 4104) (n := 4098) y24 zt
  have y26 : ((⟨#[101, 120, 32, 120, 46]⟩ : ByteArray) ++ inB s).size ≤ 4103 := z_app (m := 5) (n := 4098) (Nat.le_refl 5) zs
  have y27 : ((⟨#[101, 120, 32, 120, 46]⟩ : ByteArray) ++ inB s ++ kOr).size ≤ 4105 := z_app (m := 4103) (n := 2) y26 (Nat.le_refl 2)
  have y28 : ((⟨#[101, 120, 32, 120, 46]⟩ : ByteArray) ++ inB s ++ kOr ++ inB t).size ≤ 8203 := z_app (m := 4105) (n := 4098) y27 zt
  obtain ⟨a, _, hla, hwa, _⟩ := An.small hs
  obtain ⟨b, _, hlb, hwb, _⟩ := An.small ht
  obtain ⟨c, _, hlc, hwc, _⟩ := An.small hr
  have T : Tri s t r a b c f g h := ⟨hla, hlb, hlc, hwa, hwb, hwc⟩
  intro k hk
  rcases cs9 k hk with rfl | rfl | rfl | rfl | rfl | rfl | rfl | rfl | rfl
  · exact ⟨_, _, rfl, rfl, bi_1 T, Nat.le_trans y4 (by decide)⟩
  · exact ⟨_, _, rfl, rfl, bi_2 T, Nat.le_trans y8 (by decide)⟩
  · exact ⟨_, _, rfl, rfl, bi_3 T, Nat.le_trans y12 (by decide)⟩
  · exact ⟨_, _, rfl, rfl, bi_4 T, Nat.le_trans y16 (by decide)⟩
  · exact ⟨_, _, rfl, rfl, bi_5 T, Nat.le_trans y18 (by decide)⟩
  · exact ⟨_, _, rfl, rfl, bi_6 T, Nat.le_trans y20 (by decide)⟩
  · exact ⟨_, _, rfl, rfl, bi_7 T, Nat.le_trans y22 (by decide)⟩
  · exact ⟨_, _, rfl, rfl, bi_8 T, Nat.le_trans y25 (by decide)⟩
  · exact ⟨_, _, rfl, rfl, bi_9 T, Nat.le_trans y28 (by decide)⟩
end Go.Proofs.YtabfhdmcljdjhaaDoor.Gl
