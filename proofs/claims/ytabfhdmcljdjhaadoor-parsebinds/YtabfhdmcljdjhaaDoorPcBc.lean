/- ParseBinds. -/
import Derived.Test.YtabfhdmcljdjhaaDoorPcBb
namespace Go.Proofs.YtabfhdmcljdjhaaDoor.Gl
open Go.RowKit
set_option linter.unusedVariables false
set_option linter.unusedSimpArgs false

set_option maxRecDepth 100000 in
set_option maxHeartbeats 8000000 in
theorem binds_yes (s t r : ByteArray) (w : World) (hS : Sg w) {f g h : Fm} (hs : An s (some f) 0 0 0) (ht : An t (some g) 0 0 0) (hr : An r (some h) 0 0 0) (zs1 : s.size ≤ 4096) (zt1 : t.size ≤ 4096) (zr1 : r.size ≤ 4096) :
    Calls Tryd.prog 4 #[.string s, .string t, .string r] w fun e w' => e = .returned (.bool true) ∧ Below w.heap.size w w' := by
  have FX := mkHid lfixed_at
  have R1 := mkHid (fun w hS => right_yes hs w hS (by omega))
  have R2 := mkHid (fun w hS => right_yes ht w hS (by omega))
  have R3 := mkHid (fun w hS => right_yes hr w hS (by omega))
  have zs0 : (kOpen ++ s).size ≤ 4097 := by rw [ByteArray.size_append]; have : kOpen.size = 1 := rfl; omega
  have zs : (inB s).size ≤ 4098 := by show (kOpen ++ s ++ kShut).size ≤ 4097 + 1; exact z_app zs0 (Nat.le_refl 1)
  have zt0 : (kOpen ++ t).size ≤ 4097 := by rw [ByteArray.size_append]; have : kOpen.size = 1 := rfl; omega
  have zt : (inB t).size ≤ 4098 := by show (kOpen ++ t ++ kShut).size ≤ 4097 + 1; exact z_app zt0 (Nat.le_refl 1)
  have zr0 : (kOpen ++ r).size ≤ 4097 := by rw [ByteArray.size_append]; have : kOpen.size = 1 := rfl; omega
  have zr : (inB r).size ≤ 4098 := by show (kOpen ++ r ++ kShut).size ≤ 4097 + 1; exact z_app zr0 (Nat.le_refl 1)
  have y1 : (inB s ++ kOr).size ≤ 4100 := z_app (m := 4098) (n := 2) zs (Nat.le_refl 2)
  have y2 : (inB s ++ kOr ++ inB t).size ≤ 8198 := z_app (m := 4100) (n := 4098) y1 zt
  have y3 : (inB s ++ kOr ++ inB t ++ kAnd).size ≤ 8201 := z_app (m := 8198) (n := 3) y2 (Nat.le_refl 3)
  have y4 : (inB s ++ kOr ++ inB t ++ kAnd ++ inB r).size ≤ 12299 := z_app (m := 8201) (n := 4098) y3 zr
  have y5 : (inB s ++ kAnd).size ≤ 4101 := z_app (m := 4098) (n := 3) zs (Nat.le_refl 3)
  have y6 : (inB s ++ kAnd ++ inB t).size ≤ 8199 := z_app (m := 4101) (n := 4098) y5 zt
  have y7 : (inB s ++ kAnd ++ inB t ++ kOr).size ≤ 8201 := z_app (m := 8199) (n := 2) y6 (Nat.le_refl 2)
  have y8 : (inB s ++ kAnd ++ inB t ++ kOr ++ inB r).size ≤ 12299 := z_app (m := 8201) (n := 4098) y7 zr
  have y9 : (inB s ++ kTo).size ≤ 4100 := z_app (m := 4098) (n := 2) zs (Nat.le_refl 2)
  have y10 : (inB s ++ kTo ++ inB t).size ≤ 8198 := z_app (m := 4100) (n := 4098) y9 zt
  have y11 : (inB s ++ kTo ++ inB t ++ kOr).size ≤ 8200 := z_app (m := 8198) (n := 2) y10 (Nat.le_refl 2)
  have y12 : (inB s ++ kTo ++ inB t ++ kOr ++ inB r).size ≤ 12298 := z_app (m := 8200) (n := 4098) y11 zr
  have y13 : (inB s ++ kIff).size ≤ 4101 := z_app (m := 4098) (n := 3) zs (Nat.le_refl 3)
  have y14 : (inB s ++ kIff ++ inB t).size ≤ 8199 := z_app (m := 4101) (n := 4098) y13 zt
  have y15 : (inB s ++ kIff ++ inB t ++ kTo).size ≤ 8201 := z_app (m := 8199) (n := 2) y14 (Nat.le_refl 2)
  have y16 : (inB s ++ kIff ++ inB t ++ kTo ++ inB r).size ≤ 12299 := z_app (m := 8201) (n := 4098) y15 zr
  have y17 : (inB s ++ kTo ++ inB t ++ kTo).size ≤ 8200 := z_app (m := 8198) (n := 2) y10 (Nat.le_refl 2)
  have y18 : (inB s ++ kTo ++ inB t ++ kTo ++ inB r).size ≤ 12298 := z_app (m := 8200) (n := 4098) y17 zr
  have y19 : (inB s ++ kAnd ++ inB t ++ kAnd).size ≤ 8202 := z_app (m := 8199) (n := 3) y6 (Nat.le_refl 3)
  have y20 : (inB s ++ kAnd ++ inB t ++ kAnd ++ inB r).size ≤ 12300 := z_app (m := 8202) (n := 4098) y19 zr
  have y21 : (inB s ++ kIff ++ inB t ++ kIff).size ≤ 8202 := z_app (m := 8199) (n := 3) y14 (Nat.le_refl 3)
  have y22 : (inB s ++ kIff ++ inB t ++ kIff ++ inB r).size ≤ 12300 := z_app (m := 8202) (n := 4098) y21 zr
  have y23 : (kNot ++ inB s).size ≤ 4101 := z_app (m := 3) (n := 4098) (Nat.le_refl 3) zs
  have y24 : (kNot ++ inB s ++ kAnd).size ≤ 4104 := z_app (m := 4101) (n := 3) y23 (Nat.le_refl 3)
  have y25 : (kNot ++ inB s ++ kAnd ++ inB t).size ≤ 8202 := z_app (m := 4104) (n := 4098) y24 zt
  have y26 : ((⟨#[101, 120, 32, 120, 46]⟩ : ByteArray) ++ inB s).size ≤ 4103 := z_app (m := 5) (n := 4098) (Nat.le_refl 5) zs
  have y27 : ((⟨#[101, 120, 32, 120, 46]⟩ : ByteArray) ++ inB s ++ kOr).size ≤ 4105 := z_app (m := 4103) (n := 2) y26 (Nat.le_refl 2)
  have y28 : ((⟨#[101, 120, 32, 120, 46]⟩ : ByteArray) ++ inB s ++ kOr ++ inB t).size ≤ 8203 := z_app (m := 4105) (n := 4098) y27 zt
  have HR := mkHid (binds_rd hs ht hr zs1 zt1 zr1)
  clear hs ht hr
  go_enter Tryd.func4, Tryd.ntmps4
  go_wp2_with (go_at_call 6; refine (FX.out _ hS).mono ?_; rintro e w1 ⟨rfl, hB1⟩)
  refine (R1.out _ (hS.below hB1)).mono ?_
  rintro e w2 ⟨v, rfl, ⟨opa, xsa, ma, boa, n1a, c1a, loa, lna, lca, rfl, -, hsf⟩, hB2⟩
  go_wp2_with (fail)
  refine (R2.out _ ((hS.below (bt2 hB1 hB2)).alloc _)).mono ?_
  rintro e w4 ⟨v2, rfl, ⟨opb, xsb, mb, bob, n1b, c1b, lob, lnb, lcb, rfl, -, hsg⟩, hB4⟩
  go_wp2_with (fail)
  refine (R3.out _ ((((hS.below (bt2 hB1 hB2)).alloc _).below hB4).alloc _)).mono ?_
  rintro e w6 ⟨v3, rfl, ⟨opc, xsc, mc, boc, n1c, c1c, loc, lnc, lcc, rfl, -, hsh⟩, hB6⟩
  go_wp2_with (fail)
  have hmx : Tryd.prog.follows .mixedOrders = true := by kernel_rfl
  clear zs0 zt0 zr0 zs zt zr zs1 zt1 zr1 y1 y2 y3 y4 y5 y6 y7 y8 y9 y10 y11 y12 y13 y14 y15 y16 y17 y18 y19 y20 y21 y22 y23 y24 y25 y26 y27 y28
  have hX5 : Rb ((w6.alloc (.cells #[.int .i64 opc, .string xsc, .int .i64 mc, .slice boc n1c c1c, .slice loc lnc lcc] 27)).alloc (.cells #[.string (inB s ++ kOr ++ inB t ++ kAnd ++ inB r), .string (inB s ++ kAnd ++ inB t ++ kOr ++ inB r), .string (inB s ++ kTo ++ inB t ++ kOr ++ inB r), .string (inB s ++ kIff ++ inB t ++ kTo ++ inB r), .string (inB s ++ kTo ++ inB t ++ kTo ++ inB r), .string (inB s ++ kAnd ++ inB t ++ kAnd ++ inB r), .string (inB s ++ kIff ++ inB t ++ kIff ++ inB r), .string (kNot ++ inB s ++ kAnd ++ inB t), .string ((⟨#[101, 120, 32, 120, 46]⟩ : ByteArray) ++ inB s ++ kOr ++ inB t)] 9)) w2.heap.size #[.int .i64 opa, .string xsa, .int .i64 ma, .slice boa n1a c1a, .slice loa lna lca] 27 := (((((rb_new w2 #[.int .i64 opa, .string xsa, .int .i64 ma, .slice boa n1a c1a, .slice loa lna lca] 27).keep hB4).keep (bal w4 (.cells #[.int .i64 opb, .string xsb, .int .i64 mb, .slice bob n1b c1b, .slice lob lnb lcb] 27))).keep hB6).keep (bal w6 _)).keep (bal _ _)
  have hX7 : Rb ((w6.alloc (.cells #[.int .i64 opc, .string xsc, .int .i64 mc, .slice boc n1c c1c, .slice loc lnc lcc] 27)).alloc (.cells #[.string (inB s ++ kOr ++ inB t ++ kAnd ++ inB r), .string (inB s ++ kAnd ++ inB t ++ kOr ++ inB r), .string (inB s ++ kTo ++ inB t ++ kOr ++ inB r), .string (inB s ++ kIff ++ inB t ++ kTo ++ inB r), .string (inB s ++ kTo ++ inB t ++ kTo ++ inB r), .string (inB s ++ kAnd ++ inB t ++ kAnd ++ inB r), .string (inB s ++ kIff ++ inB t ++ kIff ++ inB r), .string (kNot ++ inB s ++ kAnd ++ inB t), .string ((⟨#[101, 120, 32, 120, 46]⟩ : ByteArray) ++ inB s ++ kOr ++ inB t)] 9)) w4.heap.size #[.int .i64 opb, .string xsb, .int .i64 mb, .slice bob n1b c1b, .slice lob lnb lcb] 27 := (((rb_new w4 #[.int .i64 opb, .string xsb, .int .i64 mb, .slice bob n1b c1b, .slice lob lnb lcb] 27).keep hB6).keep (bal w6 _)).keep (bal _ _)
  have hX9 : Rb ((w6.alloc (.cells #[.int .i64 opc, .string xsc, .int .i64 mc, .slice boc n1c c1c, .slice loc lnc lcc] 27)).alloc (.cells #[.string (inB s ++ kOr ++ inB t ++ kAnd ++ inB r), .string (inB s ++ kAnd ++ inB t ++ kOr ++ inB r), .string (inB s ++ kTo ++ inB t ++ kOr ++ inB r), .string (inB s ++ kIff ++ inB t ++ kTo ++ inB r), .string (inB s ++ kTo ++ inB t ++ kTo ++ inB r), .string (inB s ++ kAnd ++ inB t ++ kAnd ++ inB r), .string (inB s ++ kIff ++ inB t ++ kIff ++ inB r), .string (kNot ++ inB s ++ kAnd ++ inB t), .string ((⟨#[101, 120, 32, 120, 46]⟩ : ByteArray) ++ inB s ++ kOr ++ inB t)] 9)) w6.heap.size #[.int .i64 opc, .string xsc, .int .i64 mc, .slice boc n1c c1c, .slice loc lnc lcc] 27 := (rb_new w6 #[.int .i64 opc, .string xsc, .int .i64 mc, .slice boc n1c c1c, .slice loc lnc lcc] 27).keep (bal _ _)
  have hXt : Rb ((w6.alloc (.cells #[.int .i64 opc, .string xsc, .int .i64 mc, .slice boc n1c c1c, .slice loc lnc lcc] 27)).alloc (.cells #[.string (inB s ++ kOr ++ inB t ++ kAnd ++ inB r), .string (inB s ++ kAnd ++ inB t ++ kOr ++ inB r), .string (inB s ++ kTo ++ inB t ++ kOr ++ inB r), .string (inB s ++ kIff ++ inB t ++ kTo ++ inB r), .string (inB s ++ kTo ++ inB t ++ kTo ++ inB r), .string (inB s ++ kAnd ++ inB t ++ kAnd ++ inB r), .string (inB s ++ kIff ++ inB t ++ kIff ++ inB r), .string (kNot ++ inB s ++ kAnd ++ inB t), .string ((⟨#[101, 120, 32, 120, 46]⟩ : ByteArray) ++ inB s ++ kOr ++ inB t)] 9)) (w6.heap.size + 1) #[.string (inB s ++ kOr ++ inB t ++ kAnd ++ inB r), .string (inB s ++ kAnd ++ inB t ++ kOr ++ inB r), .string (inB s ++ kTo ++ inB t ++ kOr ++ inB r), .string (inB s ++ kIff ++ inB t ++ kTo ++ inB r), .string (inB s ++ kTo ++ inB t ++ kTo ++ inB r), .string (inB s ++ kAnd ++ inB t ++ kAnd ++ inB r), .string (inB s ++ kIff ++ inB t ++ kIff ++ inB r), .string (kNot ++ inB s ++ kAnd ++ inB t), .string ((⟨#[101, 120, 32, 120, 46]⟩ : ByteArray) ++ inB s ++ kOr ++ inB t)] 9 := by
    have := rb_new (w6.alloc (.cells #[.int .i64 opc, .string xsc, .int .i64 mc, .slice boc n1c c1c, .slice loc lnc lcc] 27)) #[.string (inB s ++ kOr ++ inB t ++ kAnd ++ inB r), .string (inB s ++ kAnd ++ inB t ++ kOr ++ inB r), .string (inB s ++ kTo ++ inB t ++ kOr ++ inB r), .string (inB s ++ kIff ++ inB t ++ kTo ++ inB r), .string (inB s ++ kTo ++ inB t ++ kTo ++ inB r), .string (inB s ++ kAnd ++ inB t ++ kAnd ++ inB r), .string (inB s ++ kIff ++ inB t ++ kIff ++ inB r), .string (kNot ++ inB s ++ kAnd ++ inB t), .string ((⟨#[101, 120, 32, 120, 46]⟩ : ByteArray) ++ inB s ++ kOr ++ inB t)] 9
    rwa [World.size_alloc] at this
  have fF : FmE f (.agg #[.int .i64 opa, .string xsa, .int .i64 ma, .slice boa n1a c1a, .slice loa lna lca]) ((w6.alloc (.cells #[.int .i64 opc, .string xsc, .int .i64 mc, .slice boc n1c c1c, .slice loc lnc lcc] 27)).alloc (.cells #[.string (inB s ++ kOr ++ inB t ++ kAnd ++ inB r), .string (inB s ++ kAnd ++ inB t ++ kOr ++ inB r), .string (inB s ++ kTo ++ inB t ++ kOr ++ inB r), .string (inB s ++ kIff ++ inB t ++ kTo ++ inB r), .string (inB s ++ kTo ++ inB t ++ kTo ++ inB r), .string (inB s ++ kAnd ++ inB t ++ kAnd ++ inB r), .string (inB s ++ kIff ++ inB t ++ kIff ++ inB r), .string (kNot ++ inB s ++ kAnd ++ inB t), .string ((⟨#[101, 120, 32, 120, 46]⟩ : ByteArray) ++ inB s ++ kOr ++ inB t)] 9)) := ⟨_, _, _, _, _, _, _, _, _, rfl, (((((hsf f rfl).plain.keep (bal w2 (.cells #[.int .i64 opa, .string xsa, .int .i64 ma, .slice boa n1a c1a, .slice loa lna lca] 27))).keep hB4).keep (bal w4 (.cells #[.int .i64 opb, .string xsb, .int .i64 mb, .slice bob n1b c1b, .slice lob lnb lcb] 27))).keep hB6).keep (bt2 (bal w6 _) (bal _ _))⟩
  have fG : FmE g (.agg #[.int .i64 opb, .string xsb, .int .i64 mb, .slice bob n1b c1b, .slice lob lnb lcb]) ((w6.alloc (.cells #[.int .i64 opc, .string xsc, .int .i64 mc, .slice boc n1c c1c, .slice loc lnc lcc] 27)).alloc (.cells #[.string (inB s ++ kOr ++ inB t ++ kAnd ++ inB r), .string (inB s ++ kAnd ++ inB t ++ kOr ++ inB r), .string (inB s ++ kTo ++ inB t ++ kOr ++ inB r), .string (inB s ++ kIff ++ inB t ++ kTo ++ inB r), .string (inB s ++ kTo ++ inB t ++ kTo ++ inB r), .string (inB s ++ kAnd ++ inB t ++ kAnd ++ inB r), .string (inB s ++ kIff ++ inB t ++ kIff ++ inB r), .string (kNot ++ inB s ++ kAnd ++ inB t), .string ((⟨#[101, 120, 32, 120, 46]⟩ : ByteArray) ++ inB s ++ kOr ++ inB t)] 9)) := ⟨_, _, _, _, _, _, _, _, _, rfl, (((hsg g rfl).plain.keep (bal w4 (.cells #[.int .i64 opb, .string xsb, .int .i64 mb, .slice bob n1b c1b, .slice lob lnb lcb] 27))).keep hB6).keep (bt2 (bal w6 _) (bal _ _))⟩
  have fH : FmE h (.agg #[.int .i64 opc, .string xsc, .int .i64 mc, .slice boc n1c c1c, .slice loc lnc lcc]) ((w6.alloc (.cells #[.int .i64 opc, .string xsc, .int .i64 mc, .slice boc n1c c1c, .slice loc lnc lcc] 27)).alloc (.cells #[.string (inB s ++ kOr ++ inB t ++ kAnd ++ inB r), .string (inB s ++ kAnd ++ inB t ++ kOr ++ inB r), .string (inB s ++ kTo ++ inB t ++ kOr ++ inB r), .string (inB s ++ kIff ++ inB t ++ kTo ++ inB r), .string (inB s ++ kTo ++ inB t ++ kTo ++ inB r), .string (inB s ++ kAnd ++ inB t ++ kAnd ++ inB r), .string (inB s ++ kIff ++ inB t ++ kIff ++ inB r), .string (kNot ++ inB s ++ kAnd ++ inB t), .string ((⟨#[101, 120, 32, 120, 46]⟩ : ByteArray) ++ inB s ++ kOr ++ inB t)] 9)) := ⟨_, _, _, _, _, _, _, _, _, rfl, ((hsh h rfl).plain).keep (bt2 (bal w6 _) (bal _ _))⟩
  have hBs : Below w.heap.size w ((w6.alloc (.cells #[.int .i64 opc, .string xsc, .int .i64 mc, .slice boc n1c c1c, .slice loc lnc lcc] 27)).alloc (.cells #[.string (inB s ++ kOr ++ inB t ++ kAnd ++ inB r), .string (inB s ++ kAnd ++ inB t ++ kOr ++ inB r), .string (inB s ++ kTo ++ inB t ++ kOr ++ inB r), .string (inB s ++ kIff ++ inB t ++ kTo ++ inB r), .string (inB s ++ kTo ++ inB t ++ kTo ++ inB r), .string (inB s ++ kAnd ++ inB t ++ kAnd ++ inB r), .string (inB s ++ kIff ++ inB t ++ kIff ++ inB r), .string (kNot ++ inB s ++ kAnd ++ inB t), .string ((⟨#[101, 120, 32, 120, 46]⟩ : ByteArray) ++ inB s ++ kOr ++ inB t)] 9)) := bta (bta (bt2 (bta (bt2 (bta (bt2 hB1 hB2) _) hB4) _) hB6) _) _
  have hS8 : Sg ((w6.alloc (.cells #[.int .i64 opc, .string xsc, .int .i64 mc, .slice boc n1c c1c, .slice loc lnc lcc] 27)).alloc (.cells #[.string (inB s ++ kOr ++ inB t ++ kAnd ++ inB r), .string (inB s ++ kAnd ++ inB t ++ kOr ++ inB r), .string (inB s ++ kTo ++ inB t ++ kOr ++ inB r), .string (inB s ++ kIff ++ inB t ++ kTo ++ inB r), .string (inB s ++ kTo ++ inB t ++ kTo ++ inB r), .string (inB s ++ kAnd ++ inB t ++ kAnd ++ inB r), .string (inB s ++ kIff ++ inB t ++ kIff ++ inB r), .string (kNot ++ inB s ++ kAnd ++ inB t), .string ((⟨#[101, 120, 32, 120, 46]⟩ : ByteArray) ++ inB s ++ kOr ++ inB t)] 9)) := ((((((hS.below (bt2 hB1 hB2)).alloc (.cells #[.int .i64 opa, .string xsa, .int .i64 ma, .slice boa n1a c1a, .slice loa lna lca] 27)).below hB4).alloc (.cells #[.int .i64 opb, .string xsb, .int .i64 mb, .slice bob n1b c1b, .slice lob lnb lcb] 27)).below hB6).alloc _).alloc _
  clear hsf hsg hsh
  generalize hW8 : ((w6.alloc (.cells #[.int .i64 opc, .string xsc, .int .i64 mc, .slice boc n1c c1c, .slice loc lnc lcc] 27)).alloc (.cells #[.string (inB s ++ kOr ++ inB t ++ kAnd ++ inB r), .string (inB s ++ kAnd ++ inB t ++ kOr ++ inB r), .string (inB s ++ kTo ++ inB t ++ kOr ++ inB r), .string (inB s ++ kIff ++ inB t ++ kTo ++ inB r), .string (inB s ++ kTo ++ inB t ++ kTo ++ inB r), .string (inB s ++ kAnd ++ inB t ++ kAnd ++ inB r), .string (inB s ++ kIff ++ inB t ++ kIff ++ inB r), .string (kNot ++ inB s ++ kAnd ++ inB t), .string ((⟨#[101, 120, 32, 120, 46]⟩ : ByteArray) ++ inB s ++ kOr ++ inB t)] 9)) = W8 at hX5 hX7 hX9 hXt fF fG fH hBs hS8 ⊢
  clear hW8
  have hX5d := hX5.keep ((Below.refl _ W8).drew)
  have hX7d := hX7.keep ((Below.refl _ W8).drew)
  have hX9d := hX9.keep ((Below.refl _ W8).drew)
  have fFd := fF.keep ((Below.refl _ W8).drew)
  have fGd := fG.keep ((Below.refl _ W8).drew)
  have fHd := fH.keep ((Below.refl _ W8).drew)
  refine wp_region_props (GK [(118, .lit f (.agg #[.int .i64 opa, .string xsa, .int .i64 ma, .slice boa n1a c1a, .slice loa lna lca])), (119, .lit g (.agg #[.int .i64 opb, .string xsb, .int .i64 mb, .slice bob n1b c1b, .slice lob lnb lcb])), (120, .lit h (.agg #[.int .i64 opc, .string xsc, .int .i64 mc, .slice boc n1c c1c, .slice loc lnc lcc])), (121, .sl [g, h]), (122, .fm (fPair 3 g h)), (123, .sl [f, (fPair 3 g h)]), (124, .fm (fPair 4 f (fPair 3 g h))), (125, .lit f (.agg #[.int .i64 opa, .string xsa, .int .i64 ma, .slice boa n1a c1a, .slice loa lna lca])), (126, .lit g (.agg #[.int .i64 opb, .string xsb, .int .i64 mb, .slice bob n1b c1b, .slice lob lnb lcb])), (127, .sl [f, g]), (128, .fm (fPair 3 f g)), (129, .lit h (.agg #[.int .i64 opc, .string xsc, .int .i64 mc, .slice boc n1c c1c, .slice loc lnc lcc])), (130, .sl [(fPair 3 f g), h]), (131, .fm (fPair 4 (fPair 3 f g) h)), (132, .lit f (.agg #[.int .i64 opa, .string xsa, .int .i64 ma, .slice boa n1a c1a, .slice loa lna lca])), (133, .lit g (.agg #[.int .i64 opb, .string xsb, .int .i64 mb, .slice bob n1b c1b, .slice lob lnb lcb])), (134, .lit h (.agg #[.int .i64 opc, .string xsc, .int .i64 mc, .slice boc n1c c1c, .slice loc lnc lcc])), (135, .sl [g, h]), (136, .fm (fPair 4 g h)), (137, .sl [f, (fPair 4 g h)]), (138, .fm (fPair 5 f (fPair 4 g h))), (139, .lit f (.agg #[.int .i64 opa, .string xsa, .int .i64 ma, .slice boa n1a c1a, .slice loa lna lca])), (140, .lit g (.agg #[.int .i64 opb, .string xsb, .int .i64 mb, .slice bob n1b c1b, .slice lob lnb lcb])), (141, .lit h (.agg #[.int .i64 opc, .string xsc, .int .i64 mc, .slice boc n1c c1c, .slice loc lnc lcc])), (142, .sl [g, h]), (143, .fm (fPair 5 g h)), (144, .sl [f, (fPair 5 g h)]), (145, .fm (fPair 6 f (fPair 5 g h))), (146, .lit f (.agg #[.int .i64 opa, .string xsa, .int .i64 ma, .slice boa n1a c1a, .slice loa lna lca])), (147, .lit g (.agg #[.int .i64 opb, .string xsb, .int .i64 mb, .slice bob n1b c1b, .slice lob lnb lcb])), (148, .lit h (.agg #[.int .i64 opc, .string xsc, .int .i64 mc, .slice boc n1c c1c, .slice loc lnc lcc])), (149, .sl [g, h]), (150, .fm (fPair 5 g h)), (151, .sl [f, (fPair 5 g h)]), (152, .fm (fPair 5 f (fPair 5 g h))), (153, .lit f (.agg #[.int .i64 opa, .string xsa, .int .i64 ma, .slice boa n1a c1a, .slice loa lna lca])), (154, .lit g (.agg #[.int .i64 opb, .string xsb, .int .i64 mb, .slice bob n1b c1b, .slice lob lnb lcb])), (155, .sl [f, g]), (156, .fm (fPair 3 f g)), (157, .lit h (.agg #[.int .i64 opc, .string xsc, .int .i64 mc, .slice boc n1c c1c, .slice loc lnc lcc])), (158, .sl [(fPair 3 f g), h]), (159, .fm (fPair 3 (fPair 3 f g) h)), (160, .lit f (.agg #[.int .i64 opa, .string xsa, .int .i64 ma, .slice boa n1a c1a, .slice loa lna lca])), (161, .lit g (.agg #[.int .i64 opb, .string xsb, .int .i64 mb, .slice bob n1b c1b, .slice lob lnb lcb])), (162, .sl [f, g]), (163, .fm (fPair 6 f g)), (164, .lit h (.agg #[.int .i64 opc, .string xsc, .int .i64 mc, .slice boc n1c c1c, .slice loc lnc lcc])), (165, .sl [(fPair 6 f g), h]), (166, .fm (fPair 6 (fPair 6 f g) h)), (167, .lit f (.agg #[.int .i64 opa, .string xsa, .int .i64 ma, .slice boa n1a c1a, .slice loa lna lca])), (168, .sl [f]), (169, .fm (fNot f)), (170, .lit g (.agg #[.int .i64 opb, .string xsb, .int .i64 mb, .slice bob n1b c1b, .slice lob lnb lcb])), (171, .sl [(fNot f), g]), (172, .fm (fPair 3 (fNot f) g)), (173, .lit f (.agg #[.int .i64 opa, .string xsa, .int .i64 ma, .slice boa n1a c1a, .slice loa lna lca])), (174, .sl [f]), (175, .fm (fQ 7 kX f)), (176, .lit g (.agg #[.int .i64 opb, .string xsb, .int .i64 mb, .slice bob n1b c1b, .slice lob lnb lcb])), (177, .sl [(fQ 7 kX f), g]), (178, .fm (fPair 4 (fQ 7 kX f) g)), (179, .sl [(fPair 4 f (fPair 3 g h)), (fPair 4 (fPair 3 f g) h), (fPair 5 f (fPair 4 g h)), (fPair 6 f (fPair 5 g h)), (fPair 5 f (fPair 5 g h)), (fPair 3 (fPair 3 f g) h), (fPair 6 (fPair 6 f g) h), (fPair 3 (fNot f) g), (fPair 4 (fQ 7 kX f) g)]), (17, .sl [(fPair 4 f (fPair 3 g h)), (fPair 4 (fPair 3 f g) h), (fPair 5 f (fPair 4 g h)), (fPair 6 f (fPair 5 g h)), (fPair 5 f (fPair 5 g h)), (fPair 3 (fPair 3 f g) h), (fPair 6 (fPair 6 f g) h), (fPair 3 (fNot f) g), (fPair 4 (fQ 7 kX f) g)])]) hmx (by kernel_rfl) (gk_keep _) ?_ ?_
  · intro k o ho
    have hk : k < 63 := (Array.getElem?_eq_some_iff.1 ho).1
    rcases cs63 k hk with rfl | rfl | rfl | rfl | rfl | rfl | rfl | rfl | rfl | rfl | rfl | rfl | rfl | rfl | rfl | rfl | rfl | rfl | rfl | rfl | rfl | rfl | rfl | rfl | rfl | rfl | rfl | rfl | rfl | rfl | rfl | rfl | rfl | rfl | rfl | rfl | rfl | rfl | rfl | rfl | rfl | rfl | rfl | rfl | rfl | rfl | rfl | rfl | rfl | rfl | rfl | rfl | rfl | rfl | rfl | rfl | rfl | rfl | rfl | rfl | rfl | rfl | rfl
    · have ho' : some _ = some o := ho
      cases ho'
      intro a w5 hold hdep hB
      exact st_load rfl ((hold 7 (by decide)).trans rfl) (hX5d.keep hB) ⟨_, rfl, fun d hd => by cases (show some 118 = some d from hd); exact gk_of rfl ⟨rfl, fFd.keep hB⟩, Below.refl _ _⟩
    · have ho' : some _ = some o := ho
      cases ho'
      intro a w5 hold hdep hB
      exact st_load rfl ((hold 9 (by decide)).trans rfl) (hX7d.keep hB) ⟨_, rfl, fun d hd => by cases (show some 119 = some d from hd); exact gk_of rfl ⟨rfl, fGd.keep hB⟩, Below.refl _ _⟩
    · have ho' : some _ = some o := ho
      cases ho'
      intro a w5 hold hdep hB
      exact st_load rfl ((hold 11 (by decide)).trans rfl) (hX9d.keep hB) ⟨_, rfl, fun d hd => by cases (show some 120 = some d from hd); exact gk_of rfl ⟨rfl, fHd.keep hB⟩, Below.refl _ _⟩
    · have ho' : some _ = some o := ho
      cases ho'
      intro a w5 hold hdep hB
      obtain ⟨u0, e0, g0⟩ := hdep _ (Array.mem_of_getElem? (i := 0) rfl) _ _ rfl rfl rfl
      obtain ⟨x0, rfl, i0⟩ := (Kd.fmE (g0 _ rfl) (.inl ⟨_, rfl⟩)).c5
      obtain ⟨u1, e1, g1⟩ := hdep _ (Array.mem_of_getElem? (i := 1) rfl) _ _ rfl rfl rfl
      obtain ⟨x1, rfl, i1⟩ := (Kd.fmE (g1 _ rfl) (.inl ⟨_, rfl⟩)).c5
      exact st_bs2 rfl e0 e1 ⟨_, rfl, fun d hd => by cases (show some 121 = some d from hd); exact gk_of rfl (sle_new [g, h] [x0, x1] rfl (is_cons i0 (is_cons i1 is_nil)) (by simp)), bal _ _⟩
    · have ho' : some _ = some o := ho
      cases ho'
      intro a w5 hold hdep hB
      obtain ⟨u0, e0, g0⟩ := hdep _ (Array.mem_of_getElem? (i := 0) rfl) _ _ rfl rfl rfl
      obtain ⟨ao, cap, rfl, hF⟩ := SlE.fm (l := [g, h]) (g0 _ rfl) 3 emp (by decide) (by decide)
      exact st_join rfl e0 (fun w6 hb => ⟨_, rfl, fun d hd => by cases (show some 122 = some d from hd); exact gk_of rfl (FmE.keep hF hb), hb⟩)
    · have ho' : some _ = some o := ho
      cases ho'
      intro a w5 hold hdep hB
      obtain ⟨u0, e0, g0⟩ := hdep _ (Array.mem_of_getElem? (i := 0) rfl) _ _ rfl rfl rfl
      obtain ⟨x0, rfl, i0⟩ := (Kd.fmE (g0 _ rfl) (.inl ⟨_, rfl⟩)).c5
      obtain ⟨u1, e1, g1⟩ := hdep _ (Array.mem_of_getElem? (i := 1) rfl) _ _ rfl rfl rfl
      obtain ⟨x1, rfl, i1⟩ := (Kd.fmE (g1 _ rfl) (.inr rfl)).c5
      exact st_bs2 rfl e0 e1 ⟨_, rfl, fun d hd => by cases (show some 123 = some d from hd); exact gk_of rfl (sle_new [f, (fPair 3 g h)] [x0, x1] rfl (is_cons i0 (is_cons i1 is_nil)) (by simp)), bal _ _⟩
    · have ho' : some _ = some o := ho
      cases ho'
      intro a w5 hold hdep hB
      obtain ⟨u0, e0, g0⟩ := hdep _ (Array.mem_of_getElem? (i := 0) rfl) _ _ rfl rfl rfl
      obtain ⟨ao, cap, rfl, hF⟩ := SlE.fm (l := [f, (fPair 3 g h)]) (g0 _ rfl) 4 emp (by decide) (by decide)
      exact st_join rfl e0 (fun w6 hb => ⟨_, rfl, fun d hd => by cases (show some 124 = some d from hd); exact gk_of rfl (FmE.keep hF hb), hb⟩)
    · have ho' : some _ = some o := ho
      cases ho'
      intro a w5 hold hdep hB
      exact st_load rfl ((hold 7 (by decide)).trans rfl) (hX5d.keep hB) ⟨_, rfl, fun d hd => by cases (show some 125 = some d from hd); exact gk_of rfl ⟨rfl, fFd.keep hB⟩, Below.refl _ _⟩
    · have ho' : some _ = some o := ho
      cases ho'
      intro a w5 hold hdep hB
      exact st_load rfl ((hold 9 (by decide)).trans rfl) (hX7d.keep hB) ⟨_, rfl, fun d hd => by cases (show some 126 = some d from hd); exact gk_of rfl ⟨rfl, fGd.keep hB⟩, Below.refl _ _⟩
    · have ho' : some _ = some o := ho
      cases ho'
      intro a w5 hold hdep hB
      obtain ⟨u0, e0, g0⟩ := hdep _ (Array.mem_of_getElem? (i := 0) rfl) _ _ rfl rfl rfl
      obtain ⟨x0, rfl, i0⟩ := (Kd.fmE (g0 _ rfl) (.inl ⟨_, rfl⟩)).c5
      obtain ⟨u1, e1, g1⟩ := hdep _ (Array.mem_of_getElem? (i := 1) rfl) _ _ rfl rfl rfl
      obtain ⟨x1, rfl, i1⟩ := (Kd.fmE (g1 _ rfl) (.inl ⟨_, rfl⟩)).c5
      exact st_bs2 rfl e0 e1 ⟨_, rfl, fun d hd => by cases (show some 127 = some d from hd); exact gk_of rfl (sle_new [f, g] [x0, x1] rfl (is_cons i0 (is_cons i1 is_nil)) (by simp)), bal _ _⟩
    · have ho' : some _ = some o := ho
      cases ho'
      intro a w5 hold hdep hB
      obtain ⟨u0, e0, g0⟩ := hdep _ (Array.mem_of_getElem? (i := 0) rfl) _ _ rfl rfl rfl
      obtain ⟨ao, cap, rfl, hF⟩ := SlE.fm (l := [f, g]) (g0 _ rfl) 3 emp (by decide) (by decide)
      exact st_join rfl e0 (fun w6 hb => ⟨_, rfl, fun d hd => by cases (show some 128 = some d from hd); exact gk_of rfl (FmE.keep hF hb), hb⟩)
    · have ho' : some _ = some o := ho
      cases ho'
      intro a w5 hold hdep hB
      exact st_load rfl ((hold 11 (by decide)).trans rfl) (hX9d.keep hB) ⟨_, rfl, fun d hd => by cases (show some 129 = some d from hd); exact gk_of rfl ⟨rfl, fHd.keep hB⟩, Below.refl _ _⟩
    · have ho' : some _ = some o := ho
      cases ho'
      intro a w5 hold hdep hB
      obtain ⟨u0, e0, g0⟩ := hdep _ (Array.mem_of_getElem? (i := 0) rfl) _ _ rfl rfl rfl
      obtain ⟨x0, rfl, i0⟩ := (Kd.fmE (g0 _ rfl) (.inr rfl)).c5
      obtain ⟨u1, e1, g1⟩ := hdep _ (Array.mem_of_getElem? (i := 1) rfl) _ _ rfl rfl rfl
      obtain ⟨x1, rfl, i1⟩ := (Kd.fmE (g1 _ rfl) (.inl ⟨_, rfl⟩)).c5
      exact st_bs2 rfl e0 e1 ⟨_, rfl, fun d hd => by cases (show some 130 = some d from hd); exact gk_of rfl (sle_new [(fPair 3 f g), h] [x0, x1] rfl (is_cons i0 (is_cons i1 is_nil)) (by simp)), bal _ _⟩
    · have ho' : some _ = some o := ho
      cases ho'
      intro a w5 hold hdep hB
      obtain ⟨u0, e0, g0⟩ := hdep _ (Array.mem_of_getElem? (i := 0) rfl) _ _ rfl rfl rfl
      obtain ⟨ao, cap, rfl, hF⟩ := SlE.fm (l := [(fPair 3 f g), h]) (g0 _ rfl) 4 emp (by decide) (by decide)
      exact st_join rfl e0 (fun w6 hb => ⟨_, rfl, fun d hd => by cases (show some 131 = some d from hd); exact gk_of rfl (FmE.keep hF hb), hb⟩)
    · have ho' : some _ = some o := ho
      cases ho'
      intro a w5 hold hdep hB
      exact st_load rfl ((hold 7 (by decide)).trans rfl) (hX5d.keep hB) ⟨_, rfl, fun d hd => by cases (show some 132 = some d from hd); exact gk_of rfl ⟨rfl, fFd.keep hB⟩, Below.refl _ _⟩
    · have ho' : some _ = some o := ho
      cases ho'
      intro a w5 hold hdep hB
      exact st_load rfl ((hold 9 (by decide)).trans rfl) (hX7d.keep hB) ⟨_, rfl, fun d hd => by cases (show some 133 = some d from hd); exact gk_of rfl ⟨rfl, fGd.keep hB⟩, Below.refl _ _⟩
    · have ho' : some _ = some o := ho
      cases ho'
      intro a w5 hold hdep hB
      exact st_load rfl ((hold 11 (by decide)).trans rfl) (hX9d.keep hB) ⟨_, rfl, fun d hd => by cases (show some 134 = some d from hd); exact gk_of rfl ⟨rfl, fHd.keep hB⟩, Below.refl _ _⟩
    · have ho' : some _ = some o := ho
      cases ho'
      intro a w5 hold hdep hB
      obtain ⟨u0, e0, g0⟩ := hdep _ (Array.mem_of_getElem? (i := 0) rfl) _ _ rfl rfl rfl
      obtain ⟨x0, rfl, i0⟩ := (Kd.fmE (g0 _ rfl) (.inl ⟨_, rfl⟩)).c5
      obtain ⟨u1, e1, g1⟩ := hdep _ (Array.mem_of_getElem? (i := 1) rfl) _ _ rfl rfl rfl
      obtain ⟨x1, rfl, i1⟩ := (Kd.fmE (g1 _ rfl) (.inl ⟨_, rfl⟩)).c5
      exact st_bs2 rfl e0 e1 ⟨_, rfl, fun d hd => by cases (show some 135 = some d from hd); exact gk_of rfl (sle_new [g, h] [x0, x1] rfl (is_cons i0 (is_cons i1 is_nil)) (by simp)), bal _ _⟩
    · have ho' : some _ = some o := ho
      cases ho'
      intro a w5 hold hdep hB
      obtain ⟨u0, e0, g0⟩ := hdep _ (Array.mem_of_getElem? (i := 0) rfl) _ _ rfl rfl rfl
      obtain ⟨ao, cap, rfl, hF⟩ := SlE.fm (l := [g, h]) (g0 _ rfl) 4 emp (by decide) (by decide)
      exact st_join rfl e0 (fun w6 hb => ⟨_, rfl, fun d hd => by cases (show some 136 = some d from hd); exact gk_of rfl (FmE.keep hF hb), hb⟩)
    · have ho' : some _ = some o := ho
      cases ho'
      intro a w5 hold hdep hB
      obtain ⟨u0, e0, g0⟩ := hdep _ (Array.mem_of_getElem? (i := 0) rfl) _ _ rfl rfl rfl
      obtain ⟨x0, rfl, i0⟩ := (Kd.fmE (g0 _ rfl) (.inl ⟨_, rfl⟩)).c5
      obtain ⟨u1, e1, g1⟩ := hdep _ (Array.mem_of_getElem? (i := 1) rfl) _ _ rfl rfl rfl
      obtain ⟨x1, rfl, i1⟩ := (Kd.fmE (g1 _ rfl) (.inr rfl)).c5
      exact st_bs2 rfl e0 e1 ⟨_, rfl, fun d hd => by cases (show some 137 = some d from hd); exact gk_of rfl (sle_new [f, (fPair 4 g h)] [x0, x1] rfl (is_cons i0 (is_cons i1 is_nil)) (by simp)), bal _ _⟩
    · have ho' : some _ = some o := ho
      cases ho'
      intro a w5 hold hdep hB
      obtain ⟨u0, e0, g0⟩ := hdep _ (Array.mem_of_getElem? (i := 0) rfl) _ _ rfl rfl rfl
      obtain ⟨ao, cap, rfl, hF⟩ := SlE.fm (l := [f, (fPair 4 g h)]) (g0 _ rfl) 5 emp (by decide) (by decide)
      exact st_join rfl e0 (fun w6 hb => ⟨_, rfl, fun d hd => by cases (show some 138 = some d from hd); exact gk_of rfl (FmE.keep hF hb), hb⟩)
    · have ho' : some _ = some o := ho
      cases ho'
      intro a w5 hold hdep hB
      exact st_load rfl ((hold 7 (by decide)).trans rfl) (hX5d.keep hB) ⟨_, rfl, fun d hd => by cases (show some 139 = some d from hd); exact gk_of rfl ⟨rfl, fFd.keep hB⟩, Below.refl _ _⟩
    · have ho' : some _ = some o := ho
      cases ho'
      intro a w5 hold hdep hB
      exact st_load rfl ((hold 9 (by decide)).trans rfl) (hX7d.keep hB) ⟨_, rfl, fun d hd => by cases (show some 140 = some d from hd); exact gk_of rfl ⟨rfl, fGd.keep hB⟩, Below.refl _ _⟩
    · have ho' : some _ = some o := ho
      cases ho'
      intro a w5 hold hdep hB
      exact st_load rfl ((hold 11 (by decide)).trans rfl) (hX9d.keep hB) ⟨_, rfl, fun d hd => by cases (show some 141 = some d from hd); exact gk_of rfl ⟨rfl, fHd.keep hB⟩, Below.refl _ _⟩
    · have ho' : some _ = some o := ho
      cases ho'
      intro a w5 hold hdep hB
      obtain ⟨u0, e0, g0⟩ := hdep _ (Array.mem_of_getElem? (i := 0) rfl) _ _ rfl rfl rfl
      obtain ⟨x0, rfl, i0⟩ := (Kd.fmE (g0 _ rfl) (.inl ⟨_, rfl⟩)).c5
      obtain ⟨u1, e1, g1⟩ := hdep _ (Array.mem_of_getElem? (i := 1) rfl) _ _ rfl rfl rfl
      obtain ⟨x1, rfl, i1⟩ := (Kd.fmE (g1 _ rfl) (.inl ⟨_, rfl⟩)).c5
      exact st_bs2 rfl e0 e1 ⟨_, rfl, fun d hd => by cases (show some 142 = some d from hd); exact gk_of rfl (sle_new [g, h] [x0, x1] rfl (is_cons i0 (is_cons i1 is_nil)) (by simp)), bal _ _⟩
    · have ho' : some _ = some o := ho
      cases ho'
      intro a w5 hold hdep hB
      obtain ⟨u0, e0, g0⟩ := hdep _ (Array.mem_of_getElem? (i := 0) rfl) _ _ rfl rfl rfl
      obtain ⟨ao, cap, rfl, hF⟩ := SlE.fm (l := [g, h]) (g0 _ rfl) 5 emp (by decide) (by decide)
      exact st_join rfl e0 (fun w6 hb => ⟨_, rfl, fun d hd => by cases (show some 143 = some d from hd); exact gk_of rfl (FmE.keep hF hb), hb⟩)
    · have ho' : some _ = some o := ho
      cases ho'
      intro a w5 hold hdep hB
      obtain ⟨u0, e0, g0⟩ := hdep _ (Array.mem_of_getElem? (i := 0) rfl) _ _ rfl rfl rfl
      obtain ⟨x0, rfl, i0⟩ := (Kd.fmE (g0 _ rfl) (.inl ⟨_, rfl⟩)).c5
      obtain ⟨u1, e1, g1⟩ := hdep _ (Array.mem_of_getElem? (i := 1) rfl) _ _ rfl rfl rfl
      obtain ⟨x1, rfl, i1⟩ := (Kd.fmE (g1 _ rfl) (.inr rfl)).c5
      exact st_bs2 rfl e0 e1 ⟨_, rfl, fun d hd => by cases (show some 144 = some d from hd); exact gk_of rfl (sle_new [f, (fPair 5 g h)] [x0, x1] rfl (is_cons i0 (is_cons i1 is_nil)) (by simp)), bal _ _⟩
    · have ho' : some _ = some o := ho
      cases ho'
      intro a w5 hold hdep hB
      obtain ⟨u0, e0, g0⟩ := hdep _ (Array.mem_of_getElem? (i := 0) rfl) _ _ rfl rfl rfl
      obtain ⟨ao, cap, rfl, hF⟩ := SlE.fm (l := [f, (fPair 5 g h)]) (g0 _ rfl) 6 emp (by decide) (by decide)
      exact st_join rfl e0 (fun w6 hb => ⟨_, rfl, fun d hd => by cases (show some 145 = some d from hd); exact gk_of rfl (FmE.keep hF hb), hb⟩)
    · have ho' : some _ = some o := ho
      cases ho'
      intro a w5 hold hdep hB
      exact st_load rfl ((hold 7 (by decide)).trans rfl) (hX5d.keep hB) ⟨_, rfl, fun d hd => by cases (show some 146 = some d from hd); exact gk_of rfl ⟨rfl, fFd.keep hB⟩, Below.refl _ _⟩
    · have ho' : some _ = some o := ho
      cases ho'
      intro a w5 hold hdep hB
      exact st_load rfl ((hold 9 (by decide)).trans rfl) (hX7d.keep hB) ⟨_, rfl, fun d hd => by cases (show some 147 = some d from hd); exact gk_of rfl ⟨rfl, fGd.keep hB⟩, Below.refl _ _⟩
    · have ho' : some _ = some o := ho
      cases ho'
      intro a w5 hold hdep hB
      exact st_load rfl ((hold 11 (by decide)).trans rfl) (hX9d.keep hB) ⟨_, rfl, fun d hd => by cases (show some 148 = some d from hd); exact gk_of rfl ⟨rfl, fHd.keep hB⟩, Below.refl _ _⟩
    · have ho' : some _ = some o := ho
      cases ho'
      intro a w5 hold hdep hB
      obtain ⟨u0, e0, g0⟩ := hdep _ (Array.mem_of_getElem? (i := 0) rfl) _ _ rfl rfl rfl
      obtain ⟨x0, rfl, i0⟩ := (Kd.fmE (g0 _ rfl) (.inl ⟨_, rfl⟩)).c5
      obtain ⟨u1, e1, g1⟩ := hdep _ (Array.mem_of_getElem? (i := 1) rfl) _ _ rfl rfl rfl
      obtain ⟨x1, rfl, i1⟩ := (Kd.fmE (g1 _ rfl) (.inl ⟨_, rfl⟩)).c5
      exact st_bs2 rfl e0 e1 ⟨_, rfl, fun d hd => by cases (show some 149 = some d from hd); exact gk_of rfl (sle_new [g, h] [x0, x1] rfl (is_cons i0 (is_cons i1 is_nil)) (by simp)), bal _ _⟩
    · have ho' : some _ = some o := ho
      cases ho'
      intro a w5 hold hdep hB
      obtain ⟨u0, e0, g0⟩ := hdep _ (Array.mem_of_getElem? (i := 0) rfl) _ _ rfl rfl rfl
      obtain ⟨ao, cap, rfl, hF⟩ := SlE.fm (l := [g, h]) (g0 _ rfl) 5 emp (by decide) (by decide)
      exact st_join rfl e0 (fun w6 hb => ⟨_, rfl, fun d hd => by cases (show some 150 = some d from hd); exact gk_of rfl (FmE.keep hF hb), hb⟩)
    · have ho' : some _ = some o := ho
      cases ho'
      intro a w5 hold hdep hB
      obtain ⟨u0, e0, g0⟩ := hdep _ (Array.mem_of_getElem? (i := 0) rfl) _ _ rfl rfl rfl
      obtain ⟨x0, rfl, i0⟩ := (Kd.fmE (g0 _ rfl) (.inl ⟨_, rfl⟩)).c5
      obtain ⟨u1, e1, g1⟩ := hdep _ (Array.mem_of_getElem? (i := 1) rfl) _ _ rfl rfl rfl
      obtain ⟨x1, rfl, i1⟩ := (Kd.fmE (g1 _ rfl) (.inr rfl)).c5
      exact st_bs2 rfl e0 e1 ⟨_, rfl, fun d hd => by cases (show some 151 = some d from hd); exact gk_of rfl (sle_new [f, (fPair 5 g h)] [x0, x1] rfl (is_cons i0 (is_cons i1 is_nil)) (by simp)), bal _ _⟩
    · have ho' : some _ = some o := ho
      cases ho'
      intro a w5 hold hdep hB
      obtain ⟨u0, e0, g0⟩ := hdep _ (Array.mem_of_getElem? (i := 0) rfl) _ _ rfl rfl rfl
      obtain ⟨ao, cap, rfl, hF⟩ := SlE.fm (l := [f, (fPair 5 g h)]) (g0 _ rfl) 5 emp (by decide) (by decide)
      exact st_join rfl e0 (fun w6 hb => ⟨_, rfl, fun d hd => by cases (show some 152 = some d from hd); exact gk_of rfl (FmE.keep hF hb), hb⟩)
    · have ho' : some _ = some o := ho
      cases ho'
      intro a w5 hold hdep hB
      exact st_load rfl ((hold 7 (by decide)).trans rfl) (hX5d.keep hB) ⟨_, rfl, fun d hd => by cases (show some 153 = some d from hd); exact gk_of rfl ⟨rfl, fFd.keep hB⟩, Below.refl _ _⟩
    · have ho' : some _ = some o := ho
      cases ho'
      intro a w5 hold hdep hB
      exact st_load rfl ((hold 9 (by decide)).trans rfl) (hX7d.keep hB) ⟨_, rfl, fun d hd => by cases (show some 154 = some d from hd); exact gk_of rfl ⟨rfl, fGd.keep hB⟩, Below.refl _ _⟩
    · have ho' : some _ = some o := ho
      cases ho'
      intro a w5 hold hdep hB
      obtain ⟨u0, e0, g0⟩ := hdep _ (Array.mem_of_getElem? (i := 0) rfl) _ _ rfl rfl rfl
      obtain ⟨x0, rfl, i0⟩ := (Kd.fmE (g0 _ rfl) (.inl ⟨_, rfl⟩)).c5
      obtain ⟨u1, e1, g1⟩ := hdep _ (Array.mem_of_getElem? (i := 1) rfl) _ _ rfl rfl rfl
      obtain ⟨x1, rfl, i1⟩ := (Kd.fmE (g1 _ rfl) (.inl ⟨_, rfl⟩)).c5
      exact st_bs2 rfl e0 e1 ⟨_, rfl, fun d hd => by cases (show some 155 = some d from hd); exact gk_of rfl (sle_new [f, g] [x0, x1] rfl (is_cons i0 (is_cons i1 is_nil)) (by simp)), bal _ _⟩
    · have ho' : some _ = some o := ho
      cases ho'
      intro a w5 hold hdep hB
      obtain ⟨u0, e0, g0⟩ := hdep _ (Array.mem_of_getElem? (i := 0) rfl) _ _ rfl rfl rfl
      obtain ⟨ao, cap, rfl, hF⟩ := SlE.fm (l := [f, g]) (g0 _ rfl) 3 emp (by decide) (by decide)
      exact st_join rfl e0 (fun w6 hb => ⟨_, rfl, fun d hd => by cases (show some 156 = some d from hd); exact gk_of rfl (FmE.keep hF hb), hb⟩)
    · have ho' : some _ = some o := ho
      cases ho'
      intro a w5 hold hdep hB
      exact st_load rfl ((hold 11 (by decide)).trans rfl) (hX9d.keep hB) ⟨_, rfl, fun d hd => by cases (show some 157 = some d from hd); exact gk_of rfl ⟨rfl, fHd.keep hB⟩, Below.refl _ _⟩
    · have ho' : some _ = some o := ho
      cases ho'
      intro a w5 hold hdep hB
      obtain ⟨u0, e0, g0⟩ := hdep _ (Array.mem_of_getElem? (i := 0) rfl) _ _ rfl rfl rfl
      obtain ⟨x0, rfl, i0⟩ := (Kd.fmE (g0 _ rfl) (.inr rfl)).c5
      obtain ⟨u1, e1, g1⟩ := hdep _ (Array.mem_of_getElem? (i := 1) rfl) _ _ rfl rfl rfl
      obtain ⟨x1, rfl, i1⟩ := (Kd.fmE (g1 _ rfl) (.inl ⟨_, rfl⟩)).c5
      exact st_bs2 rfl e0 e1 ⟨_, rfl, fun d hd => by cases (show some 158 = some d from hd); exact gk_of rfl (sle_new [(fPair 3 f g), h] [x0, x1] rfl (is_cons i0 (is_cons i1 is_nil)) (by simp)), bal _ _⟩
    · have ho' : some _ = some o := ho
      cases ho'
      intro a w5 hold hdep hB
      obtain ⟨u0, e0, g0⟩ := hdep _ (Array.mem_of_getElem? (i := 0) rfl) _ _ rfl rfl rfl
      obtain ⟨ao, cap, rfl, hF⟩ := SlE.fm (l := [(fPair 3 f g), h]) (g0 _ rfl) 3 emp (by decide) (by decide)
      exact st_join rfl e0 (fun w6 hb => ⟨_, rfl, fun d hd => by cases (show some 159 = some d from hd); exact gk_of rfl (FmE.keep hF hb), hb⟩)
    · have ho' : some _ = some o := ho
      cases ho'
      intro a w5 hold hdep hB
      exact st_load rfl ((hold 7 (by decide)).trans rfl) (hX5d.keep hB) ⟨_, rfl, fun d hd => by cases (show some 160 = some d from hd); exact gk_of rfl ⟨rfl, fFd.keep hB⟩, Below.refl _ _⟩
    · have ho' : some _ = some o := ho
      cases ho'
      intro a w5 hold hdep hB
      exact st_load rfl ((hold 9 (by decide)).trans rfl) (hX7d.keep hB) ⟨_, rfl, fun d hd => by cases (show some 161 = some d from hd); exact gk_of rfl ⟨rfl, fGd.keep hB⟩, Below.refl _ _⟩
    · have ho' : some _ = some o := ho
      cases ho'
      intro a w5 hold hdep hB
      obtain ⟨u0, e0, g0⟩ := hdep _ (Array.mem_of_getElem? (i := 0) rfl) _ _ rfl rfl rfl
      obtain ⟨x0, rfl, i0⟩ := (Kd.fmE (g0 _ rfl) (.inl ⟨_, rfl⟩)).c5
      obtain ⟨u1, e1, g1⟩ := hdep _ (Array.mem_of_getElem? (i := 1) rfl) _ _ rfl rfl rfl
      obtain ⟨x1, rfl, i1⟩ := (Kd.fmE (g1 _ rfl) (.inl ⟨_, rfl⟩)).c5
      exact st_bs2 rfl e0 e1 ⟨_, rfl, fun d hd => by cases (show some 162 = some d from hd); exact gk_of rfl (sle_new [f, g] [x0, x1] rfl (is_cons i0 (is_cons i1 is_nil)) (by simp)), bal _ _⟩
    · have ho' : some _ = some o := ho
      cases ho'
      intro a w5 hold hdep hB
      obtain ⟨u0, e0, g0⟩ := hdep _ (Array.mem_of_getElem? (i := 0) rfl) _ _ rfl rfl rfl
      obtain ⟨ao, cap, rfl, hF⟩ := SlE.fm (l := [f, g]) (g0 _ rfl) 6 emp (by decide) (by decide)
      exact st_join rfl e0 (fun w6 hb => ⟨_, rfl, fun d hd => by cases (show some 163 = some d from hd); exact gk_of rfl (FmE.keep hF hb), hb⟩)
    · have ho' : some _ = some o := ho
      cases ho'
      intro a w5 hold hdep hB
      exact st_load rfl ((hold 11 (by decide)).trans rfl) (hX9d.keep hB) ⟨_, rfl, fun d hd => by cases (show some 164 = some d from hd); exact gk_of rfl ⟨rfl, fHd.keep hB⟩, Below.refl _ _⟩
    · have ho' : some _ = some o := ho
      cases ho'
      intro a w5 hold hdep hB
      obtain ⟨u0, e0, g0⟩ := hdep _ (Array.mem_of_getElem? (i := 0) rfl) _ _ rfl rfl rfl
      obtain ⟨x0, rfl, i0⟩ := (Kd.fmE (g0 _ rfl) (.inr rfl)).c5
      obtain ⟨u1, e1, g1⟩ := hdep _ (Array.mem_of_getElem? (i := 1) rfl) _ _ rfl rfl rfl
      obtain ⟨x1, rfl, i1⟩ := (Kd.fmE (g1 _ rfl) (.inl ⟨_, rfl⟩)).c5
      exact st_bs2 rfl e0 e1 ⟨_, rfl, fun d hd => by cases (show some 165 = some d from hd); exact gk_of rfl (sle_new [(fPair 6 f g), h] [x0, x1] rfl (is_cons i0 (is_cons i1 is_nil)) (by simp)), bal _ _⟩
    · have ho' : some _ = some o := ho
      cases ho'
      intro a w5 hold hdep hB
      obtain ⟨u0, e0, g0⟩ := hdep _ (Array.mem_of_getElem? (i := 0) rfl) _ _ rfl rfl rfl
      obtain ⟨ao, cap, rfl, hF⟩ := SlE.fm (l := [(fPair 6 f g), h]) (g0 _ rfl) 6 emp (by decide) (by decide)
      exact st_join rfl e0 (fun w6 hb => ⟨_, rfl, fun d hd => by cases (show some 166 = some d from hd); exact gk_of rfl (FmE.keep hF hb), hb⟩)
    · have ho' : some _ = some o := ho
      cases ho'
      intro a w5 hold hdep hB
      exact st_load rfl ((hold 7 (by decide)).trans rfl) (hX5d.keep hB) ⟨_, rfl, fun d hd => by cases (show some 167 = some d from hd); exact gk_of rfl ⟨rfl, fFd.keep hB⟩, Below.refl _ _⟩
    · have ho' : some _ = some o := ho
      cases ho'
      intro a w5 hold hdep hB
      obtain ⟨u0, e0, g0⟩ := hdep _ (Array.mem_of_getElem? (i := 0) rfl) _ _ rfl rfl rfl
      obtain ⟨x0, rfl, i0⟩ := (Kd.fmE (g0 _ rfl) (.inl ⟨_, rfl⟩)).c5
      exact st_bs1 rfl e0 ⟨_, rfl, fun d hd => by cases (show some 168 = some d from hd); exact gk_of rfl (sle_new [f] [x0] rfl (is_cons i0 is_nil) (by simp)), bal _ _⟩
    · have ho' : some _ = some o := ho
      cases ho'
      intro a w5 hold hdep hB
      obtain ⟨u0, e0, g0⟩ := hdep _ (Array.mem_of_getElem? (i := 0) rfl) _ _ rfl rfl rfl
      obtain ⟨ao, cap, rfl, hF⟩ := SlE.fm (l := [f]) (g0 _ rfl) 2 emp (by decide) (by decide)
      exact st_join rfl e0 (fun w6 hb => ⟨_, rfl, fun d hd => by cases (show some 169 = some d from hd); exact gk_of rfl (FmE.keep hF hb), hb⟩)
    · have ho' : some _ = some o := ho
      cases ho'
      intro a w5 hold hdep hB
      exact st_load rfl ((hold 9 (by decide)).trans rfl) (hX7d.keep hB) ⟨_, rfl, fun d hd => by cases (show some 170 = some d from hd); exact gk_of rfl ⟨rfl, fGd.keep hB⟩, Below.refl _ _⟩
    · have ho' : some _ = some o := ho
      cases ho'
      intro a w5 hold hdep hB
      obtain ⟨u0, e0, g0⟩ := hdep _ (Array.mem_of_getElem? (i := 0) rfl) _ _ rfl rfl rfl
      obtain ⟨x0, rfl, i0⟩ := (Kd.fmE (g0 _ rfl) (.inr rfl)).c5
      obtain ⟨u1, e1, g1⟩ := hdep _ (Array.mem_of_getElem? (i := 1) rfl) _ _ rfl rfl rfl
      obtain ⟨x1, rfl, i1⟩ := (Kd.fmE (g1 _ rfl) (.inl ⟨_, rfl⟩)).c5
      exact st_bs2 rfl e0 e1 ⟨_, rfl, fun d hd => by cases (show some 171 = some d from hd); exact gk_of rfl (sle_new [(fNot f), g] [x0, x1] rfl (is_cons i0 (is_cons i1 is_nil)) (by simp)), bal _ _⟩
    · have ho' : some _ = some o := ho
      cases ho'
      intro a w5 hold hdep hB
      obtain ⟨u0, e0, g0⟩ := hdep _ (Array.mem_of_getElem? (i := 0) rfl) _ _ rfl rfl rfl
      obtain ⟨ao, cap, rfl, hF⟩ := SlE.fm (l := [(fNot f), g]) (g0 _ rfl) 3 emp (by decide) (by decide)
      exact st_join rfl e0 (fun w6 hb => ⟨_, rfl, fun d hd => by cases (show some 172 = some d from hd); exact gk_of rfl (FmE.keep hF hb), hb⟩)
    · have ho' : some _ = some o := ho
      cases ho'
      intro a w5 hold hdep hB
      exact st_load rfl ((hold 7 (by decide)).trans rfl) (hX5d.keep hB) ⟨_, rfl, fun d hd => by cases (show some 173 = some d from hd); exact gk_of rfl ⟨rfl, fFd.keep hB⟩, Below.refl _ _⟩
    · have ho' : some _ = some o := ho
      cases ho'
      intro a w5 hold hdep hB
      obtain ⟨u0, e0, g0⟩ := hdep _ (Array.mem_of_getElem? (i := 0) rfl) _ _ rfl rfl rfl
      obtain ⟨x0, rfl, i0⟩ := (Kd.fmE (g0 _ rfl) (.inl ⟨_, rfl⟩)).c5
      exact st_bs1 rfl e0 ⟨_, rfl, fun d hd => by cases (show some 174 = some d from hd); exact gk_of rfl (sle_new [f] [x0] rfl (is_cons i0 is_nil) (by simp)), bal _ _⟩
    · have ho' : some _ = some o := ho
      cases ho'
      intro a w5 hold hdep hB
      obtain ⟨u0, e0, g0⟩ := hdep _ (Array.mem_of_getElem? (i := 0) rfl) _ _ rfl rfl rfl
      obtain ⟨ao, cap, rfl, hF⟩ := SlE.fm (l := [f]) (g0 _ rfl) 7 kX (by decide) (by decide)
      exact st_build rfl e0 ⟨_, rfl, fun d hd => by cases (show some 175 = some d from hd); exact gk_of rfl hF, Below.refl _ _⟩
    · have ho' : some _ = some o := ho
      cases ho'
      intro a w5 hold hdep hB
      exact st_load rfl ((hold 9 (by decide)).trans rfl) (hX7d.keep hB) ⟨_, rfl, fun d hd => by cases (show some 176 = some d from hd); exact gk_of rfl ⟨rfl, fGd.keep hB⟩, Below.refl _ _⟩
    · have ho' : some _ = some o := ho
      cases ho'
      intro a w5 hold hdep hB
      obtain ⟨u0, e0, g0⟩ := hdep _ (Array.mem_of_getElem? (i := 0) rfl) _ _ rfl rfl rfl
      obtain ⟨x0, rfl, i0⟩ := (Kd.fmE (g0 _ rfl) (.inr rfl)).c5
      obtain ⟨u1, e1, g1⟩ := hdep _ (Array.mem_of_getElem? (i := 1) rfl) _ _ rfl rfl rfl
      obtain ⟨x1, rfl, i1⟩ := (Kd.fmE (g1 _ rfl) (.inl ⟨_, rfl⟩)).c5
      exact st_bs2 rfl e0 e1 ⟨_, rfl, fun d hd => by cases (show some 177 = some d from hd); exact gk_of rfl (sle_new [(fQ 7 kX f), g] [x0, x1] rfl (is_cons i0 (is_cons i1 is_nil)) (by simp)), bal _ _⟩
    · have ho' : some _ = some o := ho
      cases ho'
      intro a w5 hold hdep hB
      obtain ⟨u0, e0, g0⟩ := hdep _ (Array.mem_of_getElem? (i := 0) rfl) _ _ rfl rfl rfl
      obtain ⟨ao, cap, rfl, hF⟩ := SlE.fm (l := [(fQ 7 kX f), g]) (g0 _ rfl) 4 emp (by decide) (by decide)
      exact st_join rfl e0 (fun w6 hb => ⟨_, rfl, fun d hd => by cases (show some 178 = some d from hd); exact gk_of rfl (FmE.keep hF hb), hb⟩)
    · have ho' : some _ = some o := ho
      cases ho'
      intro a w5 hold hdep hB
      obtain ⟨u0, e0, g0⟩ := hdep _ (Array.mem_of_getElem? (i := 0) rfl) _ _ rfl rfl rfl
      obtain ⟨x0, rfl, i0⟩ := (Kd.fmE (g0 _ rfl) (.inr rfl)).c5
      obtain ⟨u1, e1, g1⟩ := hdep _ (Array.mem_of_getElem? (i := 1) rfl) _ _ rfl rfl rfl
      obtain ⟨x1, rfl, i1⟩ := (Kd.fmE (g1 _ rfl) (.inr rfl)).c5
      obtain ⟨u2, e2, g2⟩ := hdep _ (Array.mem_of_getElem? (i := 2) rfl) _ _ rfl rfl rfl
      obtain ⟨x2, rfl, i2⟩ := (Kd.fmE (g2 _ rfl) (.inr rfl)).c5
      obtain ⟨u3, e3, g3⟩ := hdep _ (Array.mem_of_getElem? (i := 3) rfl) _ _ rfl rfl rfl
      obtain ⟨x3, rfl, i3⟩ := (Kd.fmE (g3 _ rfl) (.inr rfl)).c5
      obtain ⟨u4, e4, g4⟩ := hdep _ (Array.mem_of_getElem? (i := 4) rfl) _ _ rfl rfl rfl
      obtain ⟨x4, rfl, i4⟩ := (Kd.fmE (g4 _ rfl) (.inr rfl)).c5
      obtain ⟨u5, e5, g5⟩ := hdep _ (Array.mem_of_getElem? (i := 5) rfl) _ _ rfl rfl rfl
      obtain ⟨x5, rfl, i5⟩ := (Kd.fmE (g5 _ rfl) (.inr rfl)).c5
      obtain ⟨u6, e6, g6⟩ := hdep _ (Array.mem_of_getElem? (i := 6) rfl) _ _ rfl rfl rfl
      obtain ⟨x6, rfl, i6⟩ := (Kd.fmE (g6 _ rfl) (.inr rfl)).c5
      obtain ⟨u7, e7, g7⟩ := hdep _ (Array.mem_of_getElem? (i := 7) rfl) _ _ rfl rfl rfl
      obtain ⟨x7, rfl, i7⟩ := (Kd.fmE (g7 _ rfl) (.inr rfl)).c5
      obtain ⟨u8, e8, g8⟩ := hdep _ (Array.mem_of_getElem? (i := 8) rfl) _ _ rfl rfl rfl
      obtain ⟨x8, rfl, i8⟩ := (Kd.fmE (g8 _ rfl) (.inr rfl)).c5
      exact st_bs9 rfl e0 e1 e2 e3 e4 e5 e6 e7 e8 ⟨_, rfl, fun d hd => by cases (show some 179 = some d from hd); exact gk_of rfl (sle_new [(fPair 4 f (fPair 3 g h)), (fPair 4 (fPair 3 f g) h), (fPair 5 f (fPair 4 g h)), (fPair 6 f (fPair 5 g h)), (fPair 5 f (fPair 5 g h)), (fPair 3 (fPair 3 f g) h), (fPair 6 (fPair 6 f g) h), (fPair 3 (fNot f) g), (fPair 4 (fQ 7 kX f) g)] [x0, x1, x2, x3, x4, x5, x6, x7, x8] rfl (is_cons i0 (is_cons i1 (is_cons i2 (is_cons i3 (is_cons i4 (is_cons i5 (is_cons i6 (is_cons i7 (is_cons i8 is_nil))))))))) (by simp)), bal _ _⟩
    · have ho' : some _ = some o := ho
      cases ho'
      intro a w5 hold hdep hB
      obtain ⟨u0, e0, g0⟩ := hdep _ (Array.mem_of_getElem? (i := 0) rfl) _ _ rfl rfl rfl
      exact st_assign rfl e0 ⟨_, rfl, fun d hd => by cases (show some 17 = some d from hd); exact gk_of rfl (g0 _ rfl), Below.refl _ _⟩
  · intro vs w10 hB10 hG
    have hT : SlE [(fPair 4 f (fPair 3 g h)), (fPair 4 (fPair 3 f g) h), (fPair 5 f (fPair 4 g h)), (fPair 6 f (fPair 5 g h)), (fPair 5 f (fPair 5 g h)), (fPair 3 (fPair 3 f g) h), (fPair 6 (fPair 6 f g) h), (fPair 3 (fNot f) g), (fPair 4 (fQ 7 kX f) g)] (vs 17) w10 := hG 17 (by decide) _ rfl
    obtain ⟨la, lcap, hv10, hl1, hl2, hlr⟩ := hT
    have hXt10 := (hXt.keep ((Below.refl _ W8).drew)).keep hB10
    have hB0 := bt2 hBs (bt2 ((Below.refl _ W8).drew) hB10)
    have hS10 := (hS8.below ((Below.refl _ W8).drew)).below hB10
    have hv : vs 17 = .slice la 9 lcap := hv10
    clear hv10 hG hX5d hX7d hX9d fFd fGd fHd fF fG fH hX5 hX7 hX9
    change Exit.then _ _ Exit.normal (putR vs [118, 119, 120, 121, 122, 123, 124, 125, 126, 127, 128, 129, 130, 131, 132, 133, 134, 135, 136, 137, 138, 139, 140, 141, 142, 143, 144, 145, 146, 147, 148, 149, 150, 151, 152, 153, 154, 155, 156, 157, 158, 159, 160, 161, 162, 163, 164, 165, 166, 167, 168, 169, 170, 171, 172, 173, 174, 175, 176, 177, 178, 179, 17] _) w10
    simp only [putR, hv]
    generalize vs 118 = v118
    generalize vs 119 = v119
    generalize vs 120 = v120
    generalize vs 121 = v121
    generalize vs 122 = v122
    generalize vs 123 = v123
    generalize vs 124 = v124
    generalize vs 125 = v125
    generalize vs 126 = v126
    generalize vs 127 = v127
    generalize vs 128 = v128
    generalize vs 129 = v129
    generalize vs 130 = v130
    generalize vs 131 = v131
    generalize vs 132 = v132
    generalize vs 133 = v133
    generalize vs 134 = v134
    generalize vs 135 = v135
    generalize vs 136 = v136
    generalize vs 137 = v137
    generalize vs 138 = v138
    generalize vs 139 = v139
    generalize vs 140 = v140
    generalize vs 141 = v141
    generalize vs 142 = v142
    generalize vs 143 = v143
    generalize vs 144 = v144
    generalize vs 145 = v145
    generalize vs 146 = v146
    generalize vs 147 = v147
    generalize vs 148 = v148
    generalize vs 149 = v149
    generalize vs 150 = v150
    generalize vs 151 = v151
    generalize vs 152 = v152
    generalize vs 153 = v153
    generalize vs 154 = v154
    generalize vs 155 = v155
    generalize vs 156 = v156
    generalize vs 157 = v157
    generalize vs 158 = v158
    generalize vs 159 = v159
    generalize vs 160 = v160
    generalize vs 161 = v161
    generalize vs 162 = v162
    generalize vs 163 = v163
    generalize vs 164 = v164
    generalize vs 165 = v165
    generalize vs 166 = v166
    generalize vs 167 = v167
    generalize vs 168 = v168
    generalize vs 169 = v169
    generalize vs 170 = v170
    generalize vs 171 = v171
    generalize vs 172 = v172
    generalize vs 173 = v173
    generalize vs 174 = v174
    generalize vs 175 = v175
    generalize vs 176 = v176
    generalize vs 177 = v177
    generalize vs 178 = v178
    generalize vs 179 = v179
    clear hv
    go_simp
    have HL := mkHid hlr
    clear hlr R1 R2 R3 FX
    go_wp2
    go_loopw [182] (fun i wr => ∃ k : Nat, k ≤ 9 ∧ i = .int .i64 k ∧ Below w10.heap.size w10 wr) (fun i _ => 9 - (intOf i).toNat)
    case atStart => exact ⟨0, by omega, rfl, Below.refl _ _⟩
    case round =>
      obtain ⟨k, hk, rfl, hBr⟩ := hrel
      have hbw := hBr.size
      by_cases hlt : k < 9
      · obtain ⟨u, T, hTX, hTL, hRd, hu⟩ := HR.out k hlt
        have hXr := hXt10.keep hBr
        obtain ⟨tx, -⟩ := txcell hXr k _ hTX
        obtain ⟨gg, of, d0, d1, d2, d3, d4, hla, hgg, p0, p1, p2, p3, p4, hrT⟩ := RdFL.get HL.out k (by simpa using hlt)
        have hTe : [(fPair 4 f (fPair 3 g h)), (fPair 4 (fPair 3 f g) h), (fPair 5 f (fPair 4 g h)), (fPair 6 f (fPair 5 g h)), (fPair 5 f (fPair 5 g h)), (fPair 3 (fPair 3 f g) h), (fPair 6 (fPair 6 f g) h), (fPair 3 (fNot f) g), (fPair 4 (fQ 7 kX f) g)][k]'(by simpa using hlt) = T := by
          rw [List.getElem?_eq_getElem (by simpa using hlt)] at hTL
          exact Option.some.inj hTL
        rw [hTe] at hrT
        have hvT : FmV w10 T (.agg #[d0, d1, d2, d3, d4]) := ⟨_, _, _, _, _, rfl, hrT⟩
        obtain ⟨to, tx1, tm, tbo, tn1, tc1, tao, tn2, tc2, hte, -⟩ := fm_open hvT
        simp only [Value.agg.injEq, Array.mk.injEq, List.cons.injEq, and_true] at hte
        obtain ⟨rfl, rfl, rfl, rfl, rfl⟩ := hte
        subst hla
        have HC : Hid (∀ wz, Below w10.heap.size w10 wz → wz.cell? ⟨gg, of + k * 5, none⟩ = some (.int .i64 to) ∧ wz.cell? ⟨gg, of + k * 5 + 1, none⟩ = some (.string tx1) ∧ wz.cell? ⟨gg, of + k * 5 + 2, none⟩ = some (.int .i64 tm) ∧ wz.cell? ⟨gg, of + k * 5 + 3, none⟩ = some (.slice tbo tn1 tc1) ∧ wz.cell? ⟨gg, of + k * 5 + 4, none⟩ = some (.slice tao tn2 tc2)) := by
          intro wz hz
          rw [Nat.zero_add] at p0 p1 p2 p3 p4
          exact ⟨(hz.cell (p := ⟨gg, _, none⟩) hgg).trans p0, (hz.cell (p := ⟨gg, _, none⟩) hgg).trans p1, (hz.cell (p := ⟨gg, _, none⟩) hgg).trans p2, (hz.cell (p := ⟨gg, _, none⟩) hgg).trans p3, (hz.cell (p := ⟨gg, _, none⟩) hgg).trans p4⟩
        clear p0 p1 p2 p3 p4 hvT HL HR hTe hTL hTX
        obtain ⟨o, c, hAn, hcase⟩ := hRd
        rcases hcase with ⟨rfl, rfl, hchk⟩ | rfl | rfl | rfl
        · have FA : Hid (∀ w, Sg w → u.size ≤ 9223372036854775807 → Calls Tryd.prog 9 #[.string u] w fun e w' => ∃ v, e = .returned (.tuple #[v, .agg #[.int .i64 0, .int .i64 0, .int .i64 0]]) ∧ FmA w.heap.size w' (some T) v ∧ Below w.heap.size w w') := fun w h1 h2 => formula_any hAn w h1 h2
          have hsm : (decide (chk nmB T = 0) && decide (chk nmB T = 0) && eqB T T) = true := by rw [hchk]; simp [eqB_yes rfl]
          clear hAn hchk
          go_wp2_with (fail)
          refine (FA.out _ (hS10.below hBr) hu).mono ?_
          rintro e w5 ⟨v, rfl, ⟨op3, xs3, m3, bo3, n13, c13, lo3, ln3, lc3, rfl, -, hso⟩, hB5⟩
          have hBz := bta (bta (bt2 hBr hB5) (.cells #[.int .i64 op3, .string xs3, .int .i64 m3, .slice bo3 n13 c13, .slice lo3 ln3 lc3] 27)) (.cells zA 36)
          have hX14 : Rb ((w5.alloc (.cells #[.int .i64 op3, .string xs3, .int .i64 m3, .slice bo3 n13 c13, .slice lo3 ln3 lc3] 27)).alloc (.cells zA 36)) (w5.heap.size + 1) zA 36 := by
            have := rb_new (w5.alloc (.cells #[.int .i64 op3, .string xs3, .int .i64 m3, .slice bo3 n13 c13, .slice lo3 ln3 lc3] 27)) zA 36
            rwa [World.size_alloc] at this
          obtain ⟨y0, -⟩ := txcell hX14 0 _ rfl
          obtain ⟨y1, -⟩ := txcell hX14 1 _ rfl
          obtain ⟨y2, -⟩ := txcell hX14 2 _ rfl
          have SC : Hid (∀ wz, Below w5.heap.size w5 wz → Calls Tryd.prog 11 #[.agg #[.int .i64 op3, .string xs3, .int .i64 m3, .slice bo3 n13 c13, .slice lo3 ln3 lc3], .agg #[.int .i64 to, .string tx1, .int .i64 tm, .slice tbo tn1 tc1, .slice tao tn2 tc2]] wz fun e w' => e = .returned (.bool true) ∧ Below wz.heap.size wz w') := fun wz hb => by
            rw [← hsm]
            exact same_run w5 T T _ _ wz ⟨_, _, _, _, _, rfl, (hso T rfl).plain⟩ ⟨_, _, _, _, _, rfl, hrT.keep (bt2 hBr hB5)⟩ hb
          clear hso hsm hrT
          have hX13 := (rb_new w5 #[.int .i64 op3, .string xs3, .int .i64 m3, .slice bo3 n13 c13, .slice lo3 ln3 lc3] 27).keep (bal _ (.cells zA 36))
          go_wp2_with (go_at_call 10; refine (great_at 0 0 0 false _ (by decide)).mono ?_; rintro e w6 ⟨rfl, hB6⟩; obtain ⟨s0, s1, s2, s3, s4⟩ := HC.out _ (bt2 hBz hB6); have hX14' := hX14.keep hB6; have hX13' := hX13.keep hB6; obtain ⟨t0, -⟩ := txcell hX14' 0 _ rfl; obtain ⟨t1, -⟩ := txcell hX14' 1 _ rfl; obtain ⟨t2, -⟩ := txcell hX14' 2 _ rfl; obtain ⟨r0, -⟩ := txcell hX13' 0 _ rfl; obtain ⟨r1, -⟩ := txcell hX13' 1 _ rfl; obtain ⟨r2, -⟩ := txcell hX13' 2 _ rfl; obtain ⟨r3, -⟩ := txcell hX13' 3 _ rfl; obtain ⟨r4, -⟩ := txcell hX13' 4 _ rfl)
          have hB56 : Below w5.heap.size w5 w6.drew := (bt2 (bta (bal w5 _) _) hB6).drew
          go_region_with (go_at_call 11
                          refine (SC.out _ ?_).mono ?_
                          exact hB56
                          rintro e w7 ⟨rfl, hB7⟩)
          all_goals
            go_wp2
            go_roundw
            case rel => exact ⟨k + 1, by omega, by go_num, bt2 (bt2 hBz hB6) (bt2 ((Below.refl _ w6).drew) hB7)⟩
            case measure => simp [intOf]; omega
        · have FA : Hid (∀ w, Sg w → u.size ≤ 9223372036854775807 → Calls Tryd.prog 9 #[.string u] w fun e w' => ∃ v, e = .returned (.tuple #[v, .agg #[.int .i64 70, .int .i64 0, .int .i64 0]]) ∧ FmA w.heap.size w' o v ∧ Below w.heap.size w w') := fun w h1 h2 => formula_any hAn w h1 h2
          clear hAn hrT
          go_wp2_with (fail)
          refine (FA.out _ (hS10.below hBr) hu).mono ?_
          rintro e w5 ⟨v, rfl, ⟨op3, xs3, m3, bo3, n13, c13, lo3, ln3, lc3, rfl, -, hso⟩, hB5⟩
          have hBz := bta (bta (bt2 hBr hB5) (.cells #[.int .i64 op3, .string xs3, .int .i64 m3, .slice bo3 n13 c13, .slice lo3 ln3 lc3] 27)) (.cells #[.int .i64 70, .int .i64 0, .int .i64 0] 36)
          have hX14 : Rb ((w5.alloc (.cells #[.int .i64 op3, .string xs3, .int .i64 m3, .slice bo3 n13 c13, .slice lo3 ln3 lc3] 27)).alloc (.cells #[.int .i64 70, .int .i64 0, .int .i64 0] 36)) (w5.heap.size + 1) #[.int .i64 70, .int .i64 0, .int .i64 0] 36 := by
            have := rb_new (w5.alloc (.cells #[.int .i64 op3, .string xs3, .int .i64 m3, .slice bo3 n13 c13, .slice lo3 ln3 lc3] 27)) #[.int .i64 70, .int .i64 0, .int .i64 0] 36
            rwa [World.size_alloc] at this
          obtain ⟨y0, -⟩ := txcell hX14 0 _ rfl
          obtain ⟨y1, -⟩ := txcell hX14 1 _ rfl
          obtain ⟨y2, -⟩ := txcell hX14 2 _ rfl
          clear hso
          go_wp2_with (go_at_call 10; refine (great_at 70 0 0 true _ (by decide)).mono ?_; rintro e w6 ⟨rfl, hB6⟩; have hX14' := hX14.keep hB6; obtain ⟨t1, -⟩ := txcell hX14' 1 _ rfl; obtain ⟨t2, -⟩ := txcell hX14' 2 _ rfl)
          go_roundw
          case rel => exact ⟨k + 1, by omega, by go_num, bt2 hBz hB6⟩
          case measure => simp [intOf]; omega
        · have FA : Hid (∀ w, Sg w → u.size ≤ 9223372036854775807 → Calls Tryd.prog 9 #[.string u] w fun e w' => ∃ v, e = .returned (.tuple #[v, .agg #[.int .i64 73, .int .i64 0, .int .i64 0]]) ∧ FmA w.heap.size w' o v ∧ Below w.heap.size w w') := fun w h1 h2 => formula_any hAn w h1 h2
          clear hAn hrT
          go_wp2_with (fail)
          refine (FA.out _ (hS10.below hBr) hu).mono ?_
          rintro e w5 ⟨v, rfl, ⟨op3, xs3, m3, bo3, n13, c13, lo3, ln3, lc3, rfl, -, hso⟩, hB5⟩
          have hBz := bta (bta (bt2 hBr hB5) (.cells #[.int .i64 op3, .string xs3, .int .i64 m3, .slice bo3 n13 c13, .slice lo3 ln3 lc3] 27)) (.cells #[.int .i64 73, .int .i64 0, .int .i64 0] 36)
          have hX14 : Rb ((w5.alloc (.cells #[.int .i64 op3, .string xs3, .int .i64 m3, .slice bo3 n13 c13, .slice lo3 ln3 lc3] 27)).alloc (.cells #[.int .i64 73, .int .i64 0, .int .i64 0] 36)) (w5.heap.size + 1) #[.int .i64 73, .int .i64 0, .int .i64 0] 36 := by
            have := rb_new (w5.alloc (.cells #[.int .i64 op3, .string xs3, .int .i64 m3, .slice bo3 n13 c13, .slice lo3 ln3 lc3] 27)) #[.int .i64 73, .int .i64 0, .int .i64 0] 36
            rwa [World.size_alloc] at this
          obtain ⟨y0, -⟩ := txcell hX14 0 _ rfl
          obtain ⟨y1, -⟩ := txcell hX14 1 _ rfl
          obtain ⟨y2, -⟩ := txcell hX14 2 _ rfl
          clear hso
          go_wp2_with (go_at_call 10; refine (great_at 73 0 0 true _ (by decide)).mono ?_; rintro e w6 ⟨rfl, hB6⟩; have hX14' := hX14.keep hB6; obtain ⟨t1, -⟩ := txcell hX14' 1 _ rfl; obtain ⟨t2, -⟩ := txcell hX14' 2 _ rfl)
          go_roundw
          case rel => exact ⟨k + 1, by omega, by go_num, bt2 hBz hB6⟩
          case measure => simp [intOf]; omega
        · have FA : Hid (∀ w, Sg w → u.size ≤ 9223372036854775807 → Calls Tryd.prog 9 #[.string u] w fun e w' => ∃ v, e = .returned (.tuple #[v, .agg #[.int .i64 72, .int .i64 0, .int .i64 0]]) ∧ FmA w.heap.size w' o v ∧ Below w.heap.size w w') := fun w h1 h2 => formula_any hAn w h1 h2
          clear hAn hrT
          go_wp2_with (fail)
          refine (FA.out _ (hS10.below hBr) hu).mono ?_
          rintro e w5 ⟨v, rfl, ⟨op3, xs3, m3, bo3, n13, c13, lo3, ln3, lc3, rfl, -, hso⟩, hB5⟩
          have hBz := bta (bta (bt2 hBr hB5) (.cells #[.int .i64 op3, .string xs3, .int .i64 m3, .slice bo3 n13 c13, .slice lo3 ln3 lc3] 27)) (.cells #[.int .i64 72, .int .i64 0, .int .i64 0] 36)
          have hX14 : Rb ((w5.alloc (.cells #[.int .i64 op3, .string xs3, .int .i64 m3, .slice bo3 n13 c13, .slice lo3 ln3 lc3] 27)).alloc (.cells #[.int .i64 72, .int .i64 0, .int .i64 0] 36)) (w5.heap.size + 1) #[.int .i64 72, .int .i64 0, .int .i64 0] 36 := by
            have := rb_new (w5.alloc (.cells #[.int .i64 op3, .string xs3, .int .i64 m3, .slice bo3 n13 c13, .slice lo3 ln3 lc3] 27)) #[.int .i64 72, .int .i64 0, .int .i64 0] 36
            rwa [World.size_alloc] at this
          obtain ⟨y0, -⟩ := txcell hX14 0 _ rfl
          obtain ⟨y1, -⟩ := txcell hX14 1 _ rfl
          obtain ⟨y2, -⟩ := txcell hX14 2 _ rfl
          clear hso
          go_wp2_with (go_at_call 10; refine (great_at 72 0 0 true _ (by decide)).mono ?_; rintro e w6 ⟨rfl, hB6⟩; have hX14' := hX14.keep hB6; obtain ⟨t1, -⟩ := txcell hX14' 1 _ rfl; obtain ⟨t2, -⟩ := txcell hX14' 2 _ rfl)
          go_roundw
          case rel => exact ⟨k + 1, by omega, by go_num, bt2 hBz hB6⟩
          case measure => simp [intOf]; omega
      · obtain rfl : k = 9 := by omega
        go_wp2
        go_ret
        exact ⟨rfl, bt2 hB0 hBr⟩
/-- every way -/
theorem binds_walk (s t r : ByteArray) (w : World) (hS : Sg w) (h1 : s.size ≤ 9223372036854775807) (h2 : t.size ≤ 9223372036854775807) (h3 : r.size ≤ 9223372036854775807) :
    Calls Tryd.prog 4 #[.string s, .string t, .string r] w fun e w' => e = .returned (.bool true) ∧ Below w.heap.size w w' := by
  obtain ⟨o, c, b, k, hs⟩ := An.ex s
  obtain ⟨o', c', b', k', ht⟩ := An.ex t
  obtain ⟨o2, c2, b2, k2, hr⟩ := An.ex r
  by_cases hn : c ≠ 0 ∨ c' ≠ 0 ∨ c2 ≠ 0
  · exact binds_no s t r w hS h1 h2 h3 hs ht hr hn
  · obtain rfl : c = 0 := by omega
    obtain rfl : c' = 0 := by omega
    obtain rfl : c2 = 0 := by omega
    rcases hs.kinds with ⟨_, f, rfl, _⟩ | ⟨h0, _⟩
    · rcases ht.kinds with ⟨_, g, rfl, _⟩ | ⟨h0, _⟩
      · rcases hr.kinds with ⟨_, h, rfl, _⟩ | ⟨h0, _⟩
        · obtain ⟨_, zs, _, _, _, rfl, rfl⟩ := hs.small
          obtain ⟨_, zt, _, _, _, rfl, rfl⟩ := ht.small
          obtain ⟨_, zr, _, _, _, rfl, rfl⟩ := hr.small
          exact binds_yes s t r w hS hs ht hr zs zt zr
        · exact absurd rfl h0
      · exact absurd rfl h0
    · exact absurd rfl h0
end Go.Proofs.YtabfhdmcljdjhaaDoor.Gl
