/- TreeBinds out of what tree answers. -/
import Derived.Test.YtiihabecncnbcaaTrQ
import Derived.Test.YtiihabecncnbcaaTrR
import Derived.Test.YtiihabecncnbcaaGlT
namespace Go.Proofs.Ytiihabecncnbcaa.Gl
open Go.RowKit
set_option linter.unusedVariables false

theorem name_short {x : ByteArray} (h : IsName x) : x.size ≤ 9223372036854775807 := by
  obtain ⟨⟨n, hc, _, hn, _⟩, _⟩ := h
  have key : ∀ k, k ≤ n → pos x k ≤ 4 * k := by
    intro k
    induction k with
    | zero => intro _; exact Nat.le_refl _
    | succ k ih =>
      intro hk
      have := (rd_bd x (pos x k) (hc.2 k (by omega))).2.2
      have := ih (by omega)
      rw [pos_succ]; omega
  have := key n (Nat.le_refl _)
  have := hc.1
  omega
theorem short_names {L : List ByteArray} (h : ∀ x ∈ L, IsName x) : Short L := fun x hx => name_short (h x hx)
/-- the quantifier's value, made in memory -/
theorem bind_val {w w1 : World} {f : Fm} {c0 c1 c2 c3 c4 : Value} (q : Int) (hq : q = 7 ∨ q = 8) (x : ByteArray) (hx : x.size ≤ 9223372036854775807) (h : RdF w f c0 c1 c2 c3 c4) (hb : Below w.heap.size w w1) (o : Obj) :
    FmV ((w1.alloc (.cells #[c0, c1, c2, c3, c4] 27)).alloc o) (.mk q x 0 [] [f]) (.agg #[.int .i64 q, .string x, .int .i64 0, .slice none 0 0, .slice (some ⟨w1.heap.size, 0, none⟩) 1 1]) := by
  refine ⟨_, _, _, _, _, rfl, ?_⟩
  rw [RdF]
  refine ⟨rfl, rfl, rfl, ⟨by unfold I64; omega, by decide, hx⟩, ⟨none, 0, rfl, by decide, by decide, by rw [RdTL]; trivial⟩, some ⟨w1.heap.size, 0, none⟩, 1, rfl, Nat.le_refl _, by decide, ?_⟩
  rw [RdFL, RdFL]
  have hc : ∀ o', ((w1.alloc (.cells #[c0, c1, c2, c3, c4] 27)).alloc o).cell? ⟨w1.heap.size, o', none⟩ = #[c0, c1, c2, c3, c4][o']? := fun o' =>
    (World.cell?_of_block (heap_alloc_old _ _ (show w1.heap.size < (w1.alloc (.cells #[c0, c1, c2, c3, c4] 27)).heap.size by simp))).trans (cell_newO _ _ _ _ rfl o')
  exact ⟨⟨w1.heap.size, 0, c0, c1, c2, c3, c4, rfl, by simp; omega, hc 0, hc 1, hc 2, hc 3, hc 4, h.keep (bta (bta hb _) _)⟩, trivial⟩
set_option maxRecDepth 100000 in
set_option maxHeartbeats 4000000 in
theorem binds_bad7a (C : TreeC) (f : Fm) (v : Value) (x : ByteArray) (w : World) (hv : FmV w f v) (hx : x.size ≤ 9223372036854775807) (hh : ¬ chk nmB (.mk 7 x 0 [] [f]) = 0) (hn : ¬ IsName x) : Calls Try.prog 8 #[v, .string x, .bool false] w fun e w' => e = .returned (.bool true) ∧ Below w.heap.size w w' := by
  have FX : Hid (∀ w, Calls Try.prog 9 #[] w fun e w' => e = .returned (.bool true) ∧ Below w.heap.size w w') := fun w => lfixed6_at C w
  have CH : Hid (∀ W v, FmV W (.mk 7 x 0 [] [f]) v → ∀ {w1}, Below W.heap.size W w1 → Calls Try.prog 16 #[v] w1 fun e w' => e = .returned (.int .i64 (chk nmB (.mk 7 x 0 [] [f]))) ∧ Below w1.heap.size w1 w') := fun W v h w1 hb => C.check W _ v w1 h hb
  have DP : Hid (∀ w1, Below w.heap.size w w1 → Calls Try.prog 19 #[v] w1 fun e w' => e = .returned (.tuple #[.int .i64 (ok0 f f.deep), .int .i64 (chk nmB f)]) ∧ Below w1.heap.size w1 w') := fun w1 h => C.depth w f v w1 hv h
  have SZ : Hid (∀ w1, Below w.heap.size w w1 → Calls Try.prog 18 #[v] w1 fun e w' => e = .returned (.tuple #[.int .i64 (ok0 f f.size), .int .i64 (chk nmB f)]) ∧ Below w1.heap.size w1 w') := fun w1 h => C.size w f v w1 hv h
  have NM : Hid (∀ w, Calls Try.prog 22 #[.string x] w fun e w' => e = .returned (.bool false) ∧ Below w.heap.size w w') := fun w => name_at x false w hx (by simp [hn])
  have kh : ((chk nmB (.mk 7 x 0 [] [f]) : Int) != 0) = true := by simp; omega
  have kh2 : ((chk nmB (.mk 7 x 0 [] [f]) : Int) == 0) = false := by simp; omega
  generalize chk nmB (.mk 7 x 0 [] [f]) = ch at *
  generalize ok0 f f.deep = dd at *
  generalize ok0 f f.size = ss at *
  generalize chk nmB f = cf at *
  clear C hn
  obtain ⟨c0, c1, c2, c3, c4, rfl, hrd⟩ := hv
  obtain ⟨_, hbx⟩ : True ∧ ∀ o', (w.alloc (.cells #[c0, c1, c2, c3, c4] 27)).cell? ⟨w.heap.size, o', none⟩ = #[c0, c1, c2, c3, c4][o']? := ⟨trivial, fun o' => cell_newO _ _ _ _ rfl o'⟩
  go_enter Try.func8, Try.ntmps8
  go_wp2_with (fail)
  refine (FX.out _).mono ?_
  rintro e w1 ⟨rfl, hB1⟩
  obtain ⟨xk, _, x1, _⟩ := res_keep hB1
  have hb1 := ba2 hB1
  have hw1 : w.heap.size < w1.heap.size := by have := hB1.size; simp at this; omega
  have hvh := bind_val 7 (.inl rfl) x hx hrd hb1 (.cells #[.int .i64 7, .string x, .int .i64 0, .slice none 0 0, .slice (some ⟨w1.heap.size, 0, none⟩) 1 1] 27)
  have hb3 : Below w.heap.size w ((w1.alloc (.cells #[c0, c1, c2, c3, c4] 27)).alloc (.cells #[.int .i64 7, .string x, .int .i64 0, .slice none 0 0, .slice (some ⟨w1.heap.size, 0, none⟩) 1 1] 27)) := bta (bta hb1 _) _
  have xh : ∀ o', ((w1.alloc (.cells #[c0, c1, c2, c3, c4] 27)).alloc (.cells #[.int .i64 7, .string x, .int .i64 0, .slice none 0 0, .slice (some ⟨w1.heap.size, 0, none⟩) 1 1] 27)).cell? ⟨w1.heap.size + 1, o', none⟩ = #[.int .i64 7, .string x, .int .i64 0, .slice none 0 0, .slice (some ⟨w1.heap.size, 0, none⟩) 1 1][o']? := fun o' => cell_newO _ _ _ _ (by simp) o'
  have xf : ∀ o', ((w1.alloc (.cells #[c0, c1, c2, c3, c4] 27)).alloc (.cells #[.int .i64 7, .string x, .int .i64 0, .slice none 0 0, .slice (some ⟨w1.heap.size, 0, none⟩) 1 1] 27)).cell? ⟨w.heap.size, o', none⟩ = #[c0, c1, c2, c3, c4][o']? := fun o' => (World.cell?_of_block (heap_alloc_old _ _ (by simp; omega))).trans (xk _ o')
  have hs3 : ((w1.alloc (.cells #[c0, c1, c2, c3, c4] 27)).alloc (.cells #[.int .i64 7, .string x, .int .i64 0, .slice none 0 0, .slice (some ⟨w1.heap.size, 0, none⟩) 1 1] 27)).heap.size = w1.heap.size + 2 := by simp
  generalize hW3 : (w1.alloc (.cells #[c0, c1, c2, c3, c4] 27)).alloc (.cells #[.int .i64 7, .string x, .int .i64 0, .slice none 0 0, .slice (some ⟨w1.heap.size, 0, none⟩) 1 1] 27) = W3 at hvh hb3 xh xf hs3
  go_wp2_with (fail)
  clear hW3
  refine (CH.out W3 _ hvh (Below.refl _ _)).mono ?_
  rintro e w4 ⟨rfl, hB4⟩
  have yf := box_cells xf (by omega) hB4
  have yh := box_cells xh (by omega) hB4
  have hb4 := bt2 hb3 hB4
  go_wp2_with (fail)
  refine (DP.out _ hb4).mono ?_
  rintro e w5 ⟨rfl, hB5⟩
  have hb5 := bt2 hb4 hB5
  have zf := box_cells xf (by omega) (bt2 hB4 hB5)
  go_wp2_with (fail)
  refine (SZ.out _ hb5).mono ?_
  rintro e w6 ⟨rfl, hB6⟩
  have hb6 := bt2 hb5 hB6
  go_wp2_with (fail)
  refine (NM.out _).mono ?_
  rintro e w7 ⟨rfl, hB7⟩
  go_wp2
  go_ret
  exact ⟨rfl, bt2 hb6 hB7⟩
set_option maxRecDepth 100000 in
set_option maxHeartbeats 4000000 in
theorem binds_bad7b (C : TreeC) (f : Fm) (v : Value) (x : ByteArray) (w : World) (hv : FmV w f v) (hx : x.size ≤ 9223372036854775807) (hh : ¬ chk nmB (.mk 7 x 0 [] [f]) = 0) (hn : IsName x) (hf : ¬ chk nmB f = 0) : Calls Try.prog 8 #[v, .string x, .bool false] w fun e w' => e = .returned (.bool true) ∧ Below w.heap.size w w' := by
  have FX : Hid (∀ w, Calls Try.prog 9 #[] w fun e w' => e = .returned (.bool true) ∧ Below w.heap.size w w') := fun w => lfixed6_at C w
  have CH : Hid (∀ W v, FmV W (.mk 7 x 0 [] [f]) v → ∀ {w1}, Below W.heap.size W w1 → Calls Try.prog 16 #[v] w1 fun e w' => e = .returned (.int .i64 (chk nmB (.mk 7 x 0 [] [f]))) ∧ Below w1.heap.size w1 w') := fun W v h w1 hb => C.check W _ v w1 h hb
  have DP : Hid (∀ w1, Below w.heap.size w w1 → Calls Try.prog 19 #[v] w1 fun e w' => e = .returned (.tuple #[.int .i64 (ok0 f f.deep), .int .i64 (chk nmB f)]) ∧ Below w1.heap.size w1 w') := fun w1 h => C.depth w f v w1 hv h
  have SZ : Hid (∀ w1, Below w.heap.size w w1 → Calls Try.prog 18 #[v] w1 fun e w' => e = .returned (.tuple #[.int .i64 (ok0 f f.size), .int .i64 (chk nmB f)]) ∧ Below w1.heap.size w1 w') := fun w1 h => C.size w f v w1 hv h
  have NM : Hid (∀ w, Calls Try.prog 22 #[.string x] w fun e w' => e = .returned (.bool true) ∧ Below w.heap.size w w') := fun w => name_at x true w hx (by simp [hn])
  have kh : ((chk nmB (.mk 7 x 0 [] [f]) : Int) != 0) = true := by simp; omega
  have kh2 : ((chk nmB (.mk 7 x 0 [] [f]) : Int) == 0) = false := by simp; omega
  generalize chk nmB (.mk 7 x 0 [] [f]) = ch at *
  have kf : ((chk nmB f : Int) != 0) = true := by simp; omega
  have kf2 : ((chk nmB f : Int) == 0) = false := by simp; omega
  generalize ok0 f f.deep = dd at *
  generalize ok0 f f.size = ss at *
  generalize chk nmB f = cf at *
  clear C hn
  obtain ⟨c0, c1, c2, c3, c4, rfl, hrd⟩ := hv
  obtain ⟨_, hbx⟩ : True ∧ ∀ o', (w.alloc (.cells #[c0, c1, c2, c3, c4] 27)).cell? ⟨w.heap.size, o', none⟩ = #[c0, c1, c2, c3, c4][o']? := ⟨trivial, fun o' => cell_newO _ _ _ _ rfl o'⟩
  go_enter Try.func8, Try.ntmps8
  go_wp2_with (fail)
  refine (FX.out _).mono ?_
  rintro e w1 ⟨rfl, hB1⟩
  obtain ⟨xk, _, x1, _⟩ := res_keep hB1
  have hb1 := ba2 hB1
  have hw1 : w.heap.size < w1.heap.size := by have := hB1.size; simp at this; omega
  have hvh := bind_val 7 (.inl rfl) x hx hrd hb1 (.cells #[.int .i64 7, .string x, .int .i64 0, .slice none 0 0, .slice (some ⟨w1.heap.size, 0, none⟩) 1 1] 27)
  have hb3 : Below w.heap.size w ((w1.alloc (.cells #[c0, c1, c2, c3, c4] 27)).alloc (.cells #[.int .i64 7, .string x, .int .i64 0, .slice none 0 0, .slice (some ⟨w1.heap.size, 0, none⟩) 1 1] 27)) := bta (bta hb1 _) _
  have xh : ∀ o', ((w1.alloc (.cells #[c0, c1, c2, c3, c4] 27)).alloc (.cells #[.int .i64 7, .string x, .int .i64 0, .slice none 0 0, .slice (some ⟨w1.heap.size, 0, none⟩) 1 1] 27)).cell? ⟨w1.heap.size + 1, o', none⟩ = #[.int .i64 7, .string x, .int .i64 0, .slice none 0 0, .slice (some ⟨w1.heap.size, 0, none⟩) 1 1][o']? := fun o' => cell_newO _ _ _ _ (by simp) o'
  have xf : ∀ o', ((w1.alloc (.cells #[c0, c1, c2, c3, c4] 27)).alloc (.cells #[.int .i64 7, .string x, .int .i64 0, .slice none 0 0, .slice (some ⟨w1.heap.size, 0, none⟩) 1 1] 27)).cell? ⟨w.heap.size, o', none⟩ = #[c0, c1, c2, c3, c4][o']? := fun o' => (World.cell?_of_block (heap_alloc_old _ _ (by simp; omega))).trans (xk _ o')
  have hs3 : ((w1.alloc (.cells #[c0, c1, c2, c3, c4] 27)).alloc (.cells #[.int .i64 7, .string x, .int .i64 0, .slice none 0 0, .slice (some ⟨w1.heap.size, 0, none⟩) 1 1] 27)).heap.size = w1.heap.size + 2 := by simp
  generalize hW3 : (w1.alloc (.cells #[c0, c1, c2, c3, c4] 27)).alloc (.cells #[.int .i64 7, .string x, .int .i64 0, .slice none 0 0, .slice (some ⟨w1.heap.size, 0, none⟩) 1 1] 27) = W3 at hvh hb3 xh xf hs3
  go_wp2_with (fail)
  clear hW3
  refine (CH.out W3 _ hvh (Below.refl _ _)).mono ?_
  rintro e w4 ⟨rfl, hB4⟩
  have yf := box_cells xf (by omega) hB4
  have yh := box_cells xh (by omega) hB4
  have hb4 := bt2 hb3 hB4
  go_wp2_with (fail)
  refine (DP.out _ hb4).mono ?_
  rintro e w5 ⟨rfl, hB5⟩
  have hb5 := bt2 hb4 hB5
  have zf := box_cells xf (by omega) (bt2 hB4 hB5)
  go_wp2_with (fail)
  refine (SZ.out _ hb5).mono ?_
  rintro e w6 ⟨rfl, hB6⟩
  have hb6 := bt2 hb5 hB6
  go_wp2_with (fail)
  refine (NM.out _).mono ?_
  rintro e w7 ⟨rfl, hB7⟩
  go_wp2
  go_ret
  exact ⟨rfl, bt2 hb6 hB7⟩
set_option maxRecDepth 100000 in
set_option maxHeartbeats 4000000 in
theorem binds_bad7c (C : TreeC) (f : Fm) (v : Value) (x : ByteArray) (w : World) (hv : FmV w f v) (hx : x.size ≤ 9223372036854775807) (hh : ¬ chk nmB (.mk 7 x 0 [] [f]) = 0) (hn : IsName x) (hf : chk nmB f = 0) (hd : f.deep = 40) : Calls Try.prog 8 #[v, .string x, .bool false] w fun e w' => e = .returned (.bool true) ∧ Below w.heap.size w w' := by
  have FX : Hid (∀ w, Calls Try.prog 9 #[] w fun e w' => e = .returned (.bool true) ∧ Below w.heap.size w w') := fun w => lfixed6_at C w
  have CH : Hid (∀ W v, FmV W (.mk 7 x 0 [] [f]) v → ∀ {w1}, Below W.heap.size W w1 → Calls Try.prog 16 #[v] w1 fun e w' => e = .returned (.int .i64 (chk nmB (.mk 7 x 0 [] [f]))) ∧ Below w1.heap.size w1 w') := fun W v h w1 hb => C.check W _ v w1 h hb
  have DP : Hid (∀ w1, Below w.heap.size w w1 → Calls Try.prog 19 #[v] w1 fun e w' => e = .returned (.tuple #[.int .i64 (ok0 f f.deep), .int .i64 (chk nmB f)]) ∧ Below w1.heap.size w1 w') := fun w1 h => C.depth w f v w1 hv h
  have SZ : Hid (∀ w1, Below w.heap.size w w1 → Calls Try.prog 18 #[v] w1 fun e w' => e = .returned (.tuple #[.int .i64 (ok0 f f.size), .int .i64 (chk nmB f)]) ∧ Below w1.heap.size w1 w') := fun w1 h => C.size w f v w1 hv h
  have NM : Hid (∀ w, Calls Try.prog 22 #[.string x] w fun e w' => e = .returned (.bool true) ∧ Below w.heap.size w w') := fun w => name_at x true w hx (by simp [hn])
  rw [ok0, if_pos hf, hf, hd] at DP
  rw [ok0, if_pos hf, hf] at SZ
  have kh : ((chk nmB (.mk 7 x 0 [] [f]) : Int) != 0) = true := by simp; omega
  have kh2 : ((chk nmB (.mk 7 x 0 [] [f]) : Int) == 0) = false := by simp; omega
  generalize chk nmB (.mk 7 x 0 [] [f]) = ch at *
  generalize f.size = ss at *
  clear C hn
  obtain ⟨c0, c1, c2, c3, c4, rfl, hrd⟩ := hv
  obtain ⟨_, hbx⟩ : True ∧ ∀ o', (w.alloc (.cells #[c0, c1, c2, c3, c4] 27)).cell? ⟨w.heap.size, o', none⟩ = #[c0, c1, c2, c3, c4][o']? := ⟨trivial, fun o' => cell_newO _ _ _ _ rfl o'⟩
  go_enter Try.func8, Try.ntmps8
  go_wp2_with (fail)
  refine (FX.out _).mono ?_
  rintro e w1 ⟨rfl, hB1⟩
  obtain ⟨xk, _, x1, _⟩ := res_keep hB1
  have hb1 := ba2 hB1
  have hw1 : w.heap.size < w1.heap.size := by have := hB1.size; simp at this; omega
  have hvh := bind_val 7 (.inl rfl) x hx hrd hb1 (.cells #[.int .i64 7, .string x, .int .i64 0, .slice none 0 0, .slice (some ⟨w1.heap.size, 0, none⟩) 1 1] 27)
  have hb3 : Below w.heap.size w ((w1.alloc (.cells #[c0, c1, c2, c3, c4] 27)).alloc (.cells #[.int .i64 7, .string x, .int .i64 0, .slice none 0 0, .slice (some ⟨w1.heap.size, 0, none⟩) 1 1] 27)) := bta (bta hb1 _) _
  have xh : ∀ o', ((w1.alloc (.cells #[c0, c1, c2, c3, c4] 27)).alloc (.cells #[.int .i64 7, .string x, .int .i64 0, .slice none 0 0, .slice (some ⟨w1.heap.size, 0, none⟩) 1 1] 27)).cell? ⟨w1.heap.size + 1, o', none⟩ = #[.int .i64 7, .string x, .int .i64 0, .slice none 0 0, .slice (some ⟨w1.heap.size, 0, none⟩) 1 1][o']? := fun o' => cell_newO _ _ _ _ (by simp) o'
  have xf : ∀ o', ((w1.alloc (.cells #[c0, c1, c2, c3, c4] 27)).alloc (.cells #[.int .i64 7, .string x, .int .i64 0, .slice none 0 0, .slice (some ⟨w1.heap.size, 0, none⟩) 1 1] 27)).cell? ⟨w.heap.size, o', none⟩ = #[c0, c1, c2, c3, c4][o']? := fun o' => (World.cell?_of_block (heap_alloc_old _ _ (by simp; omega))).trans (xk _ o')
  have hs3 : ((w1.alloc (.cells #[c0, c1, c2, c3, c4] 27)).alloc (.cells #[.int .i64 7, .string x, .int .i64 0, .slice none 0 0, .slice (some ⟨w1.heap.size, 0, none⟩) 1 1] 27)).heap.size = w1.heap.size + 2 := by simp
  generalize hW3 : (w1.alloc (.cells #[c0, c1, c2, c3, c4] 27)).alloc (.cells #[.int .i64 7, .string x, .int .i64 0, .slice none 0 0, .slice (some ⟨w1.heap.size, 0, none⟩) 1 1] 27) = W3 at hvh hb3 xh xf hs3
  go_wp2_with (fail)
  clear hW3
  refine (CH.out W3 _ hvh (Below.refl _ _)).mono ?_
  rintro e w4 ⟨rfl, hB4⟩
  have yf := box_cells xf (by omega) hB4
  have yh := box_cells xh (by omega) hB4
  have hb4 := bt2 hb3 hB4
  go_wp2_with (fail)
  refine (DP.out _ hb4).mono ?_
  rintro e w5 ⟨rfl, hB5⟩
  have hb5 := bt2 hb4 hB5
  have zf := box_cells xf (by omega) (bt2 hB4 hB5)
  go_wp2_with (fail)
  refine (SZ.out _ hb5).mono ?_
  rintro e w6 ⟨rfl, hB6⟩
  have hb6 := bt2 hb5 hB6
  go_wp2_with (fail)
  refine (NM.out _).mono ?_
  rintro e w7 ⟨rfl, hB7⟩
  go_wp2
  go_ret
  exact ⟨rfl, bt2 hb6 hB7⟩
set_option maxRecDepth 100000 in
set_option maxHeartbeats 4000000 in
theorem binds_bad7d (C : TreeC) (f : Fm) (v : Value) (x : ByteArray) (w : World) (hv : FmV w f v) (hx : x.size ≤ 9223372036854775807) (hh : ¬ chk nmB (.mk 7 x 0 [] [f]) = 0) (hn : IsName x) (hf : chk nmB f = 0) (hd : ¬ f.deep = 40) (hz : f.size = 500) : Calls Try.prog 8 #[v, .string x, .bool false] w fun e w' => e = .returned (.bool true) ∧ Below w.heap.size w w' := by
  have FX : Hid (∀ w, Calls Try.prog 9 #[] w fun e w' => e = .returned (.bool true) ∧ Below w.heap.size w w') := fun w => lfixed6_at C w
  have CH : Hid (∀ W v, FmV W (.mk 7 x 0 [] [f]) v → ∀ {w1}, Below W.heap.size W w1 → Calls Try.prog 16 #[v] w1 fun e w' => e = .returned (.int .i64 (chk nmB (.mk 7 x 0 [] [f]))) ∧ Below w1.heap.size w1 w') := fun W v h w1 hb => C.check W _ v w1 h hb
  have DP : Hid (∀ w1, Below w.heap.size w w1 → Calls Try.prog 19 #[v] w1 fun e w' => e = .returned (.tuple #[.int .i64 (ok0 f f.deep), .int .i64 (chk nmB f)]) ∧ Below w1.heap.size w1 w') := fun w1 h => C.depth w f v w1 hv h
  have SZ : Hid (∀ w1, Below w.heap.size w w1 → Calls Try.prog 18 #[v] w1 fun e w' => e = .returned (.tuple #[.int .i64 (ok0 f f.size), .int .i64 (chk nmB f)]) ∧ Below w1.heap.size w1 w') := fun w1 h => C.size w f v w1 hv h
  have NM : Hid (∀ w, Calls Try.prog 22 #[.string x] w fun e w' => e = .returned (.bool true) ∧ Below w.heap.size w w') := fun w => name_at x true w hx (by simp [hn])
  rw [ok0, if_pos hf, hf] at DP
  rw [ok0, if_pos hf, hf, hz] at SZ
  have kh : ((chk nmB (.mk 7 x 0 [] [f]) : Int) != 0) = true := by simp; omega
  have kh2 : ((chk nmB (.mk 7 x 0 [] [f]) : Int) == 0) = false := by simp; omega
  generalize chk nmB (.mk 7 x 0 [] [f]) = ch at *
  have kd : ((f.deep : Int) == 40) = false := by simp; omega
  generalize f.deep = dd at *
  clear C hn
  obtain ⟨c0, c1, c2, c3, c4, rfl, hrd⟩ := hv
  obtain ⟨_, hbx⟩ : True ∧ ∀ o', (w.alloc (.cells #[c0, c1, c2, c3, c4] 27)).cell? ⟨w.heap.size, o', none⟩ = #[c0, c1, c2, c3, c4][o']? := ⟨trivial, fun o' => cell_newO _ _ _ _ rfl o'⟩
  go_enter Try.func8, Try.ntmps8
  go_wp2_with (fail)
  refine (FX.out _).mono ?_
  rintro e w1 ⟨rfl, hB1⟩
  obtain ⟨xk, _, x1, _⟩ := res_keep hB1
  have hb1 := ba2 hB1
  have hw1 : w.heap.size < w1.heap.size := by have := hB1.size; simp at this; omega
  have hvh := bind_val 7 (.inl rfl) x hx hrd hb1 (.cells #[.int .i64 7, .string x, .int .i64 0, .slice none 0 0, .slice (some ⟨w1.heap.size, 0, none⟩) 1 1] 27)
  have hb3 : Below w.heap.size w ((w1.alloc (.cells #[c0, c1, c2, c3, c4] 27)).alloc (.cells #[.int .i64 7, .string x, .int .i64 0, .slice none 0 0, .slice (some ⟨w1.heap.size, 0, none⟩) 1 1] 27)) := bta (bta hb1 _) _
  have xh : ∀ o', ((w1.alloc (.cells #[c0, c1, c2, c3, c4] 27)).alloc (.cells #[.int .i64 7, .string x, .int .i64 0, .slice none 0 0, .slice (some ⟨w1.heap.size, 0, none⟩) 1 1] 27)).cell? ⟨w1.heap.size + 1, o', none⟩ = #[.int .i64 7, .string x, .int .i64 0, .slice none 0 0, .slice (some ⟨w1.heap.size, 0, none⟩) 1 1][o']? := fun o' => cell_newO _ _ _ _ (by simp) o'
  have xf : ∀ o', ((w1.alloc (.cells #[c0, c1, c2, c3, c4] 27)).alloc (.cells #[.int .i64 7, .string x, .int .i64 0, .slice none 0 0, .slice (some ⟨w1.heap.size, 0, none⟩) 1 1] 27)).cell? ⟨w.heap.size, o', none⟩ = #[c0, c1, c2, c3, c4][o']? := fun o' => (World.cell?_of_block (heap_alloc_old _ _ (by simp; omega))).trans (xk _ o')
  have hs3 : ((w1.alloc (.cells #[c0, c1, c2, c3, c4] 27)).alloc (.cells #[.int .i64 7, .string x, .int .i64 0, .slice none 0 0, .slice (some ⟨w1.heap.size, 0, none⟩) 1 1] 27)).heap.size = w1.heap.size + 2 := by simp
  generalize hW3 : (w1.alloc (.cells #[c0, c1, c2, c3, c4] 27)).alloc (.cells #[.int .i64 7, .string x, .int .i64 0, .slice none 0 0, .slice (some ⟨w1.heap.size, 0, none⟩) 1 1] 27) = W3 at hvh hb3 xh xf hs3
  go_wp2_with (fail)
  clear hW3
  refine (CH.out W3 _ hvh (Below.refl _ _)).mono ?_
  rintro e w4 ⟨rfl, hB4⟩
  have yf := box_cells xf (by omega) hB4
  have yh := box_cells xh (by omega) hB4
  have hb4 := bt2 hb3 hB4
  go_wp2_with (fail)
  refine (DP.out _ hb4).mono ?_
  rintro e w5 ⟨rfl, hB5⟩
  have hb5 := bt2 hb4 hB5
  have zf := box_cells xf (by omega) (bt2 hB4 hB5)
  go_wp2_with (fail)
  refine (SZ.out _ hb5).mono ?_
  rintro e w6 ⟨rfl, hB6⟩
  have hb6 := bt2 hb5 hB6
  go_wp2_with (fail)
  refine (NM.out _).mono ?_
  rintro e w7 ⟨rfl, hB7⟩
  go_wp2
  go_ret
  exact ⟨rfl, bt2 hb6 hB7⟩
set_option maxRecDepth 100000 in
set_option maxHeartbeats 8000000 in
theorem binds_good7 (C : TreeC) (f : Fm) (v : Value) (x : ByteArray) (w : World) (hv : FmV w f v) (hx : x.size ≤ 9223372036854775807) (hh : chk nmB (.mk 7 x 0 [] [f]) = 0) : Calls Try.prog 8 #[v, .string x, .bool false] w fun e w' => e = .returned (.bool true) ∧ Below w.heap.size w w' := by
  have FX : Hid (∀ w, Calls Try.prog 9 #[] w fun e w' => e = .returned (.bool true) ∧ Below w.heap.size w w') := fun w => lfixed6_at C w
  have hhr := (bind_right 7 (.inl rfl) x f).1 hh
  have hf := hhr.2.1
  have hall := ((chk_iff nmB f).1 hf).2.2
  have hallh := ((chk_iff nmB _).1 hh).2.2
  have CH : Hid (∀ W v, FmV W (.mk 7 x 0 [] [f]) v → ∀ {w1}, Below W.heap.size W w1 → Calls Try.prog 16 #[v] w1 fun e w' => e = .returned (.int .i64 0) ∧ Below w1.heap.size w1 w') := fun W v h w1 hb => by
    have := C.check W _ v w1 h hb
    rwa [hh] at this
  have CF : Hid (∀ w1, Below w.heap.size w w1 → Calls Try.prog 16 #[v] w1 fun e w' => e = .returned (.int .i64 0) ∧ Below w1.heap.size w1 w') := fun w1 h => by
    have := C.check w f v w1 hv h
    rwa [hf] at this
  have FF : Hid (∀ w1, Below w.heap.size w w1 → Calls Try.prog 10 #[v] w1 fun e w' => ∃ v', e = .returned (.tuple #[v', .int .i64 0]) ∧ w'.ownsRow w1.heap.size 9 1 v' (freeF f).length (cellsS (freeF f)) ∧ Below w1.heap.size w1 w') := fun w1 h => by
    have := C.free w f v w1 hv h
    rwa [frOf, if_pos hf, hf] at this
  have FH : Hid (∀ W v, FmV W (.mk 7 x 0 [] [f]) v → ∀ w1, Below W.heap.size W w1 → Calls Try.prog 10 #[v] w1 fun e w' => ∃ v', e = .returned (.tuple #[v', .int .i64 0]) ∧ w'.ownsRow w1.heap.size 9 1 v' ((freeF f).filter (keepB true x)).length (cellsS ((freeF f).filter (keepB true x))) ∧ Below w1.heap.size w1 w') := fun W v h w1 hb => by
    have := C.free W _ v w1 h hb
    rwa [frOf, if_pos hh, hh, bind_free 7 (.inl rfl)] at this
  have PH : Hid (∀ W v, FmV W (.mk 7 x 0 [] [f]) v → ∀ w1, Below W.heap.size W w1 → Calls Try.prog 23 #[v] w1 fun e w' => e = .returned (.tuple #[.bool false, .int .i64 0]) ∧ Below w1.heap.size w1 w') := fun W v h w1 hb => by
    have := C.plain W _ v w1 h hb
    rwa [hh, bind_plain 7 (.inl rfl), Bool.and_false] at this
  have SHH : Hid (∀ W v, FmV W (.mk 7 x 0 [] [f]) v → ∀ w1, Below W.heap.size W w1 → Calls Try.prog 14 #[v, v] w1 fun e w' => e = .returned (.bool true) ∧ Below w1.heap.size w1 w') := fun W v h w1 hb => by
    have := C.same W _ _ v v w1 h h hb
    rwa [show (decide (chk nmB (.mk 7 x 0 [] [f]) = 0) && decide (chk nmB (.mk 7 x 0 [] [f]) = 0) && eqB (Fm.mk 7 x 0 [] [f]) (.mk 7 x 0 [] [f])) = true by rw [hh, eqB_yes rfl]; rfl] at this
  have SHF : Hid (∀ W v v', FmV W (.mk 7 x 0 [] [f]) v → FmV W f v' → ∀ w1, Below W.heap.size W w1 → Calls Try.prog 14 #[v, v'] w1 fun e w' => e = .returned (.bool false) ∧ Below w1.heap.size w1 w') := fun W v v' h h' w1 hb => by
    have := C.same W _ _ v v' w1 h h' hb
    rwa [show (decide (chk nmB (.mk 7 x 0 [] [f]) = 0) && decide (chk nmB f = 0) && eqB (Fm.mk 7 x 0 [] [f]) f) = false by rw [eqB_no (bind_ne 7 x f), Bool.and_false]] at this
  have SM : Hid (∀ ao ao' n c m c' (T : List ByteArray) w, RdS w ao n c T → RdS w ao' m c' T → Calls Try.prog 12 #[.slice ao n c, .slice ao' m c'] w fun e w' => e = .returned (.bool true) ∧ Below w.heap.size w w') := fun ao ao' n c m c' T w h k => lsame_at ao ao' n c m c' T T true w h k ⟨fun _ => rfl, fun _ => rfl⟩
  have hln := freeF_len f
  have hsz := ((chk_iff nmB f).1 hf).1
  have RS : Hid (∀ ao n c w, RdS w ao n c ((freeF f).filter (keepB true x)) → Calls Try.prog 24 #[.slice ao n c] w fun e w' => e = .returned (.bool true) ∧ Below w.heap.size w w') := fun ao n c w h => by
    have hr := freeF_rise hallh
    rw [bind_free 7 (.inl rfl)] at hr
    exact rises_at ao n c _ true w h (short_names ((rise_iff _).1 hr).1) ⟨fun _ => hr, fun _ => rfl⟩
  generalize freeF f = L at *
  have hL5 : L.length ≤ 500 := by omega
  clear C hh hhr hf hall hallh hln hsz
  obtain ⟨c0, c1, c2, c3, c4, rfl, hrd⟩ := hv
  obtain ⟨_, hbx⟩ : True ∧ ∀ o', (w.alloc (.cells #[c0, c1, c2, c3, c4] 27)).cell? ⟨w.heap.size, o', none⟩ = #[c0, c1, c2, c3, c4][o']? := ⟨trivial, fun o' => cell_newO _ _ _ _ rfl o'⟩
  go_enter Try.func8, Try.ntmps8
  go_wp2_with (fail)
  refine (FX.out _).mono ?_
  rintro e w1 ⟨rfl, hB1⟩
  obtain ⟨xk, _, x1, _⟩ := res_keep hB1
  have hb1 := ba2 hB1
  have hw1 : w.heap.size < w1.heap.size := by have := hB1.size; simp at this; omega
  have hvh := bind_val 7 (.inl rfl) x hx hrd hb1 (.cells #[.int .i64 7, .string x, .int .i64 0, .slice none 0 0, .slice (some ⟨w1.heap.size, 0, none⟩) 1 1] 27)
  have hb3 : Below w.heap.size w ((w1.alloc (.cells #[c0, c1, c2, c3, c4] 27)).alloc (.cells #[.int .i64 7, .string x, .int .i64 0, .slice none 0 0, .slice (some ⟨w1.heap.size, 0, none⟩) 1 1] 27)) := bta (bta hb1 _) _
  have xh : ∀ o', ((w1.alloc (.cells #[c0, c1, c2, c3, c4] 27)).alloc (.cells #[.int .i64 7, .string x, .int .i64 0, .slice none 0 0, .slice (some ⟨w1.heap.size, 0, none⟩) 1 1] 27)).cell? ⟨w1.heap.size + 1, o', none⟩ = #[.int .i64 7, .string x, .int .i64 0, .slice none 0 0, .slice (some ⟨w1.heap.size, 0, none⟩) 1 1][o']? := fun o' => cell_newO _ _ _ _ (by simp) o'
  have xf : ∀ o', ((w1.alloc (.cells #[c0, c1, c2, c3, c4] 27)).alloc (.cells #[.int .i64 7, .string x, .int .i64 0, .slice none 0 0, .slice (some ⟨w1.heap.size, 0, none⟩) 1 1] 27)).cell? ⟨w.heap.size, o', none⟩ = #[c0, c1, c2, c3, c4][o']? := fun o' => (World.cell?_of_block (heap_alloc_old _ _ (by simp; omega))).trans (xk _ o')
  have hs3 : ((w1.alloc (.cells #[c0, c1, c2, c3, c4] 27)).alloc (.cells #[.int .i64 7, .string x, .int .i64 0, .slice none 0 0, .slice (some ⟨w1.heap.size, 0, none⟩) 1 1] 27)).heap.size = w1.heap.size + 2 := by simp
  generalize hW3 : (w1.alloc (.cells #[c0, c1, c2, c3, c4] 27)).alloc (.cells #[.int .i64 7, .string x, .int .i64 0, .slice none 0 0, .slice (some ⟨w1.heap.size, 0, none⟩) 1 1] 27) = W3 at hvh hb3 xh xf hs3
  go_wp2_with (fail)
  clear hW3
  refine (CH.out W3 _ hvh (Below.refl _ _)).mono ?_
  rintro e w4 ⟨rfl, hB4⟩
  have yf := box_cells xf (by omega) hB4
  have yh := box_cells xh (by omega) hB4
  have hb4 := bt2 hb3 hB4
  have hvf : FmV W3 f (.agg #[c0, c1, c2, c3, c4]) := ⟨_, _, _, _, _, rfl, hrd.keep hb3⟩
  go_wp2_with (fail)
  refine (CF.out _ hb4).mono ?_
  rintro e w5 ⟨rfl, hB5⟩
  have hb5 := bt2 hb4 hB5
  have hB35 := bt2 hB4 hB5
  have zf := box_cells xf (by omega) hB35
  go_wp2_with (fail)
  refine (FF.out _ hb5).mono ?_
  rintro e w6 ⟨v6, rfl, hO6, hB6⟩
  obtain ⟨a6, r6, rfl, hR6⟩ := rds_of_owns hO6
  have hB36 := bt2 hB35 hB6
  have zh := box_cells xh (by omega) hB36
  go_wp2_with (fail)
  refine (FH.out W3 _ hvh _ hB36).mono ?_
  rintro e w7 ⟨v7, rfl, hO7, hB7⟩
  obtain ⟨a7, r7, rfl, hR7⟩ := rds_of_owns hO7
  have hB37 := bt2 hB36 hB7
  have hRl := hR6.below (Nat.le_refl _) hB7
  have hlc := hRl.lecap
  have hlm := hRl.lemax
  clear CF FF FH CH hO6 hO7 hR6 FX yf yh zf zh
  go_wp2
  go_loopw [18, 81] (fun out i wr => ∃ j : Nat, j ≤ L.length ∧ i = .int .i64 j ∧ wr.ownsRow w7.heap.size 9 1 out ((L.take j).filter (keepB true x)).length (cellsS ((L.take j).filter (keepB true x))) ∧ Below w7.heap.size w7 wr) (fun _ i _ => L.length - (intOf i).toNat)
  case atStart => exact ⟨0, Nat.zero_le _, rfl, by rw [List.take_zero, List.filter_nil]; exact ⟨rfl, .inl ⟨rfl, rfl⟩⟩, Below.refl _ _⟩
  case round =>
    obtain ⟨j, hj, rfl, hO, hBr⟩ := hrel
    have hfl : ((L.take j).filter (keepB true x)).length ≤ 500 := by
      have h1 := List.length_filter_le (keepB true x) (L.take j)
      rw [List.length_take] at h1
      omega
    by_cases hlt : j < L.length
    · obtain ⟨g, of, rfl, hc0⟩ := hRl.cell j hlt
      have hc := (hBr.cell (World.block_lt_of_cell? _ _ hc0)).trans hc0
      have HF : Hid ((L.take (j + 1)).filter (keepB true x) = (L.take j).filter (keepB true x) ++ (if keepB true x (L.getD j emp) = true then [L.getD j emp] else [])) := filter_take _ L j hlt
      generalize L.getD j emp = y at *
      cases hq : (y.toList == x.toList) with
      | true =>
        have HK : Hid ((L.take (j + 1)).filter (keepB true x) = (L.take j).filter (keepB true x)) := by
          show _ = _
          rw [HF.out, keepB, hq, if_neg (by decide), List.append_nil]
        clear HF
        generalize (L.take j).filter (keepB true x) = P at *
        go_wp2
        go_roundw
        case rel => exact ⟨j + 1, by omega, by go_num, by rw [HK.out]; exact hO, hBr⟩
        case measure => simp [intOf]; omega
      | false =>
        have HK : Hid ((L.take (j + 1)).filter (keepB true x) = (L.take j).filter (keepB true x) ++ [y]) := by
          show _ = _
          rw [HF.out, keepB, hq, if_pos (by decide)]
        clear HF
        generalize (L.take j).filter (keepB true x) = P at *
        go_wp2_with (at_builtin; refine wp_pushS w7 _ w7.heap.size w7.heap.size rfl (.tmp 88) (.tmp 90) rfl _ P.length P rfl wr.heap.size y rfl (hO.alloc _) (cell_new1 _ _ _) (size_new1 hBr.size _) (by omega) (hBr.alloc hBr.size _) (Nat.le_refl _) ?_; intro v8 w8 hO8 hB8)
        go_roundw
        case rel => exact ⟨j + 1, by omega, by go_num, by rw [HK.out, List.length_append]; exact hO8, hB8⟩
        case measure => simp [intOf]; omega
    · obtain rfl : j = L.length := by omega
      have hlt' : decide (L.length < L.length) = false := decide_eq_false (by omega)
      rw [List.take_of_length_le (Nat.le_refl _)] at hO hfl
      obtain ⟨a8, r8, rfl, hR8⟩ := rds_of_owns hO
      have hB38 := bt2 hB37 hBr
      have uh := box_cells xh (by omega) hB38
      have hR7' := hR7.below (Nat.le_refl _) hBr
      clear hO hRl hR7
      go_wp2_with (fail)
      refine (PH.out W3 _ hvh _ hB38).mono ?_
      rintro e w9 ⟨rfl, hB9⟩
      have hB39 := bt2 hB38 hB9
      go_wp2_with (fail)
      refine (SM.out _ _ _ _ _ _ _ _ (hR7'.below (Nat.le_refl _) hB9) (hR8.below (Nat.le_refl _) hB9)).mono ?_
      rintro e wa ⟨rfl, hBa⟩
      have hB3a := bt2 hB39 hBa
      go_wp2_with (fail)
      refine (RS.out _ _ _ _ (hR7'.below (Nat.le_refl _) (bt2 hB9 hBa))).mono ?_
      rintro e wb ⟨rfl, hBb⟩
      have hB3b := bt2 hB3a hBb
      have vh := box_cells xh (by omega) hB3b
      go_wp2_with (fail)
      refine (SHH.out W3 _ hvh _ hB3b).mono ?_
      rintro e wc ⟨rfl, hBc⟩
      have hB3c := bt2 hB3b hBc
      have th := box_cells xh (by omega) hB3c
      have tf := box_cells xf (by omega) hB3c
      go_wp2_with (fail)
      refine (SHF.out W3 _ _ hvh hvf _ hB3c).mono ?_
      rintro e wd ⟨rfl, hBd⟩
      go_wp2
      go_ret
      exact ⟨rfl, bt2 hb3 (bt2 hB3c hBd)⟩
set_option maxRecDepth 100000 in
set_option maxHeartbeats 4000000 in
theorem binds_bad8a (C : TreeC) (f : Fm) (v : Value) (x : ByteArray) (w : World) (hv : FmV w f v) (hx : x.size ≤ 9223372036854775807) (hh : ¬ chk nmB (.mk 8 x 0 [] [f]) = 0) (hn : ¬ IsName x) : Calls Try.prog 8 #[v, .string x, .bool true] w fun e w' => e = .returned (.bool true) ∧ Below w.heap.size w w' := by
  have FX : Hid (∀ w, Calls Try.prog 9 #[] w fun e w' => e = .returned (.bool true) ∧ Below w.heap.size w w') := fun w => lfixed6_at C w
  have CH : Hid (∀ W v, FmV W (.mk 8 x 0 [] [f]) v → ∀ {w1}, Below W.heap.size W w1 → Calls Try.prog 16 #[v] w1 fun e w' => e = .returned (.int .i64 (chk nmB (.mk 8 x 0 [] [f]))) ∧ Below w1.heap.size w1 w') := fun W v h w1 hb => C.check W _ v w1 h hb
  have DP : Hid (∀ w1, Below w.heap.size w w1 → Calls Try.prog 19 #[v] w1 fun e w' => e = .returned (.tuple #[.int .i64 (ok0 f f.deep), .int .i64 (chk nmB f)]) ∧ Below w1.heap.size w1 w') := fun w1 h => C.depth w f v w1 hv h
  have SZ : Hid (∀ w1, Below w.heap.size w w1 → Calls Try.prog 18 #[v] w1 fun e w' => e = .returned (.tuple #[.int .i64 (ok0 f f.size), .int .i64 (chk nmB f)]) ∧ Below w1.heap.size w1 w') := fun w1 h => C.size w f v w1 hv h
  have NM : Hid (∀ w, Calls Try.prog 22 #[.string x] w fun e w' => e = .returned (.bool false) ∧ Below w.heap.size w w') := fun w => name_at x false w hx (by simp [hn])
  have kh : ((chk nmB (.mk 8 x 0 [] [f]) : Int) != 0) = true := by simp; omega
  have kh2 : ((chk nmB (.mk 8 x 0 [] [f]) : Int) == 0) = false := by simp; omega
  generalize chk nmB (.mk 8 x 0 [] [f]) = ch at *
  generalize ok0 f f.deep = dd at *
  generalize ok0 f f.size = ss at *
  generalize chk nmB f = cf at *
  clear C hn
  obtain ⟨c0, c1, c2, c3, c4, rfl, hrd⟩ := hv
  obtain ⟨_, hbx⟩ : True ∧ ∀ o', (w.alloc (.cells #[c0, c1, c2, c3, c4] 27)).cell? ⟨w.heap.size, o', none⟩ = #[c0, c1, c2, c3, c4][o']? := ⟨trivial, fun o' => cell_newO _ _ _ _ rfl o'⟩
  go_enter Try.func8, Try.ntmps8
  go_wp2_with (fail)
  refine (FX.out _).mono ?_
  rintro e w1 ⟨rfl, hB1⟩
  obtain ⟨xk, _, x1, _⟩ := res_keep hB1
  have hb1 := ba2 hB1
  have hw1 : w.heap.size < w1.heap.size := by have := hB1.size; simp at this; omega
  have hvh := bind_val 8 (.inr rfl) x hx hrd hb1 (.cells #[.int .i64 8, .string x, .int .i64 0, .slice none 0 0, .slice (some ⟨w1.heap.size, 0, none⟩) 1 1] 27)
  have hb3 : Below w.heap.size w ((w1.alloc (.cells #[c0, c1, c2, c3, c4] 27)).alloc (.cells #[.int .i64 8, .string x, .int .i64 0, .slice none 0 0, .slice (some ⟨w1.heap.size, 0, none⟩) 1 1] 27)) := bta (bta hb1 _) _
  have xh : ∀ o', ((w1.alloc (.cells #[c0, c1, c2, c3, c4] 27)).alloc (.cells #[.int .i64 8, .string x, .int .i64 0, .slice none 0 0, .slice (some ⟨w1.heap.size, 0, none⟩) 1 1] 27)).cell? ⟨w1.heap.size + 1, o', none⟩ = #[.int .i64 8, .string x, .int .i64 0, .slice none 0 0, .slice (some ⟨w1.heap.size, 0, none⟩) 1 1][o']? := fun o' => cell_newO _ _ _ _ (by simp) o'
  have xf : ∀ o', ((w1.alloc (.cells #[c0, c1, c2, c3, c4] 27)).alloc (.cells #[.int .i64 8, .string x, .int .i64 0, .slice none 0 0, .slice (some ⟨w1.heap.size, 0, none⟩) 1 1] 27)).cell? ⟨w.heap.size, o', none⟩ = #[c0, c1, c2, c3, c4][o']? := fun o' => (World.cell?_of_block (heap_alloc_old _ _ (by simp; omega))).trans (xk _ o')
  have hs3 : ((w1.alloc (.cells #[c0, c1, c2, c3, c4] 27)).alloc (.cells #[.int .i64 8, .string x, .int .i64 0, .slice none 0 0, .slice (some ⟨w1.heap.size, 0, none⟩) 1 1] 27)).heap.size = w1.heap.size + 2 := by simp
  generalize hW3 : (w1.alloc (.cells #[c0, c1, c2, c3, c4] 27)).alloc (.cells #[.int .i64 8, .string x, .int .i64 0, .slice none 0 0, .slice (some ⟨w1.heap.size, 0, none⟩) 1 1] 27) = W3 at hvh hb3 xh xf hs3
  go_wp2_with (fail)
  clear hW3
  refine (CH.out W3 _ hvh (Below.refl _ _)).mono ?_
  rintro e w4 ⟨rfl, hB4⟩
  have yf := box_cells xf (by omega) hB4
  have yh := box_cells xh (by omega) hB4
  have hb4 := bt2 hb3 hB4
  go_wp2_with (fail)
  refine (DP.out _ hb4).mono ?_
  rintro e w5 ⟨rfl, hB5⟩
  have hb5 := bt2 hb4 hB5
  have zf := box_cells xf (by omega) (bt2 hB4 hB5)
  go_wp2_with (fail)
  refine (SZ.out _ hb5).mono ?_
  rintro e w6 ⟨rfl, hB6⟩
  have hb6 := bt2 hb5 hB6
  go_wp2_with (fail)
  refine (NM.out _).mono ?_
  rintro e w7 ⟨rfl, hB7⟩
  go_wp2
  go_ret
  exact ⟨rfl, bt2 hb6 hB7⟩
set_option maxRecDepth 100000 in
set_option maxHeartbeats 4000000 in
theorem binds_bad8b (C : TreeC) (f : Fm) (v : Value) (x : ByteArray) (w : World) (hv : FmV w f v) (hx : x.size ≤ 9223372036854775807) (hh : ¬ chk nmB (.mk 8 x 0 [] [f]) = 0) (hn : IsName x) (hf : ¬ chk nmB f = 0) : Calls Try.prog 8 #[v, .string x, .bool true] w fun e w' => e = .returned (.bool true) ∧ Below w.heap.size w w' := by
  have FX : Hid (∀ w, Calls Try.prog 9 #[] w fun e w' => e = .returned (.bool true) ∧ Below w.heap.size w w') := fun w => lfixed6_at C w
  have CH : Hid (∀ W v, FmV W (.mk 8 x 0 [] [f]) v → ∀ {w1}, Below W.heap.size W w1 → Calls Try.prog 16 #[v] w1 fun e w' => e = .returned (.int .i64 (chk nmB (.mk 8 x 0 [] [f]))) ∧ Below w1.heap.size w1 w') := fun W v h w1 hb => C.check W _ v w1 h hb
  have DP : Hid (∀ w1, Below w.heap.size w w1 → Calls Try.prog 19 #[v] w1 fun e w' => e = .returned (.tuple #[.int .i64 (ok0 f f.deep), .int .i64 (chk nmB f)]) ∧ Below w1.heap.size w1 w') := fun w1 h => C.depth w f v w1 hv h
  have SZ : Hid (∀ w1, Below w.heap.size w w1 → Calls Try.prog 18 #[v] w1 fun e w' => e = .returned (.tuple #[.int .i64 (ok0 f f.size), .int .i64 (chk nmB f)]) ∧ Below w1.heap.size w1 w') := fun w1 h => C.size w f v w1 hv h
  have NM : Hid (∀ w, Calls Try.prog 22 #[.string x] w fun e w' => e = .returned (.bool true) ∧ Below w.heap.size w w') := fun w => name_at x true w hx (by simp [hn])
  have kh : ((chk nmB (.mk 8 x 0 [] [f]) : Int) != 0) = true := by simp; omega
  have kh2 : ((chk nmB (.mk 8 x 0 [] [f]) : Int) == 0) = false := by simp; omega
  generalize chk nmB (.mk 8 x 0 [] [f]) = ch at *
  have kf : ((chk nmB f : Int) != 0) = true := by simp; omega
  have kf2 : ((chk nmB f : Int) == 0) = false := by simp; omega
  generalize ok0 f f.deep = dd at *
  generalize ok0 f f.size = ss at *
  generalize chk nmB f = cf at *
  clear C hn
  obtain ⟨c0, c1, c2, c3, c4, rfl, hrd⟩ := hv
  obtain ⟨_, hbx⟩ : True ∧ ∀ o', (w.alloc (.cells #[c0, c1, c2, c3, c4] 27)).cell? ⟨w.heap.size, o', none⟩ = #[c0, c1, c2, c3, c4][o']? := ⟨trivial, fun o' => cell_newO _ _ _ _ rfl o'⟩
  go_enter Try.func8, Try.ntmps8
  go_wp2_with (fail)
  refine (FX.out _).mono ?_
  rintro e w1 ⟨rfl, hB1⟩
  obtain ⟨xk, _, x1, _⟩ := res_keep hB1
  have hb1 := ba2 hB1
  have hw1 : w.heap.size < w1.heap.size := by have := hB1.size; simp at this; omega
  have hvh := bind_val 8 (.inr rfl) x hx hrd hb1 (.cells #[.int .i64 8, .string x, .int .i64 0, .slice none 0 0, .slice (some ⟨w1.heap.size, 0, none⟩) 1 1] 27)
  have hb3 : Below w.heap.size w ((w1.alloc (.cells #[c0, c1, c2, c3, c4] 27)).alloc (.cells #[.int .i64 8, .string x, .int .i64 0, .slice none 0 0, .slice (some ⟨w1.heap.size, 0, none⟩) 1 1] 27)) := bta (bta hb1 _) _
  have xh : ∀ o', ((w1.alloc (.cells #[c0, c1, c2, c3, c4] 27)).alloc (.cells #[.int .i64 8, .string x, .int .i64 0, .slice none 0 0, .slice (some ⟨w1.heap.size, 0, none⟩) 1 1] 27)).cell? ⟨w1.heap.size + 1, o', none⟩ = #[.int .i64 8, .string x, .int .i64 0, .slice none 0 0, .slice (some ⟨w1.heap.size, 0, none⟩) 1 1][o']? := fun o' => cell_newO _ _ _ _ (by simp) o'
  have xf : ∀ o', ((w1.alloc (.cells #[c0, c1, c2, c3, c4] 27)).alloc (.cells #[.int .i64 8, .string x, .int .i64 0, .slice none 0 0, .slice (some ⟨w1.heap.size, 0, none⟩) 1 1] 27)).cell? ⟨w.heap.size, o', none⟩ = #[c0, c1, c2, c3, c4][o']? := fun o' => (World.cell?_of_block (heap_alloc_old _ _ (by simp; omega))).trans (xk _ o')
  have hs3 : ((w1.alloc (.cells #[c0, c1, c2, c3, c4] 27)).alloc (.cells #[.int .i64 8, .string x, .int .i64 0, .slice none 0 0, .slice (some ⟨w1.heap.size, 0, none⟩) 1 1] 27)).heap.size = w1.heap.size + 2 := by simp
  generalize hW3 : (w1.alloc (.cells #[c0, c1, c2, c3, c4] 27)).alloc (.cells #[.int .i64 8, .string x, .int .i64 0, .slice none 0 0, .slice (some ⟨w1.heap.size, 0, none⟩) 1 1] 27) = W3 at hvh hb3 xh xf hs3
  go_wp2_with (fail)
  clear hW3
  refine (CH.out W3 _ hvh (Below.refl _ _)).mono ?_
  rintro e w4 ⟨rfl, hB4⟩
  have yf := box_cells xf (by omega) hB4
  have yh := box_cells xh (by omega) hB4
  have hb4 := bt2 hb3 hB4
  go_wp2_with (fail)
  refine (DP.out _ hb4).mono ?_
  rintro e w5 ⟨rfl, hB5⟩
  have hb5 := bt2 hb4 hB5
  have zf := box_cells xf (by omega) (bt2 hB4 hB5)
  go_wp2_with (fail)
  refine (SZ.out _ hb5).mono ?_
  rintro e w6 ⟨rfl, hB6⟩
  have hb6 := bt2 hb5 hB6
  go_wp2_with (fail)
  refine (NM.out _).mono ?_
  rintro e w7 ⟨rfl, hB7⟩
  go_wp2
  go_ret
  exact ⟨rfl, bt2 hb6 hB7⟩
set_option maxRecDepth 100000 in
set_option maxHeartbeats 4000000 in
theorem binds_bad8c (C : TreeC) (f : Fm) (v : Value) (x : ByteArray) (w : World) (hv : FmV w f v) (hx : x.size ≤ 9223372036854775807) (hh : ¬ chk nmB (.mk 8 x 0 [] [f]) = 0) (hn : IsName x) (hf : chk nmB f = 0) (hd : f.deep = 40) : Calls Try.prog 8 #[v, .string x, .bool true] w fun e w' => e = .returned (.bool true) ∧ Below w.heap.size w w' := by
  have FX : Hid (∀ w, Calls Try.prog 9 #[] w fun e w' => e = .returned (.bool true) ∧ Below w.heap.size w w') := fun w => lfixed6_at C w
  have CH : Hid (∀ W v, FmV W (.mk 8 x 0 [] [f]) v → ∀ {w1}, Below W.heap.size W w1 → Calls Try.prog 16 #[v] w1 fun e w' => e = .returned (.int .i64 (chk nmB (.mk 8 x 0 [] [f]))) ∧ Below w1.heap.size w1 w') := fun W v h w1 hb => C.check W _ v w1 h hb
  have DP : Hid (∀ w1, Below w.heap.size w w1 → Calls Try.prog 19 #[v] w1 fun e w' => e = .returned (.tuple #[.int .i64 (ok0 f f.deep), .int .i64 (chk nmB f)]) ∧ Below w1.heap.size w1 w') := fun w1 h => C.depth w f v w1 hv h
  have SZ : Hid (∀ w1, Below w.heap.size w w1 → Calls Try.prog 18 #[v] w1 fun e w' => e = .returned (.tuple #[.int .i64 (ok0 f f.size), .int .i64 (chk nmB f)]) ∧ Below w1.heap.size w1 w') := fun w1 h => C.size w f v w1 hv h
  have NM : Hid (∀ w, Calls Try.prog 22 #[.string x] w fun e w' => e = .returned (.bool true) ∧ Below w.heap.size w w') := fun w => name_at x true w hx (by simp [hn])
  rw [ok0, if_pos hf, hf, hd] at DP
  rw [ok0, if_pos hf, hf] at SZ
  have kh : ((chk nmB (.mk 8 x 0 [] [f]) : Int) != 0) = true := by simp; omega
  have kh2 : ((chk nmB (.mk 8 x 0 [] [f]) : Int) == 0) = false := by simp; omega
  generalize chk nmB (.mk 8 x 0 [] [f]) = ch at *
  generalize f.size = ss at *
  clear C hn
  obtain ⟨c0, c1, c2, c3, c4, rfl, hrd⟩ := hv
  obtain ⟨_, hbx⟩ : True ∧ ∀ o', (w.alloc (.cells #[c0, c1, c2, c3, c4] 27)).cell? ⟨w.heap.size, o', none⟩ = #[c0, c1, c2, c3, c4][o']? := ⟨trivial, fun o' => cell_newO _ _ _ _ rfl o'⟩
  go_enter Try.func8, Try.ntmps8
  go_wp2_with (fail)
  refine (FX.out _).mono ?_
  rintro e w1 ⟨rfl, hB1⟩
  obtain ⟨xk, _, x1, _⟩ := res_keep hB1
  have hb1 := ba2 hB1
  have hw1 : w.heap.size < w1.heap.size := by have := hB1.size; simp at this; omega
  have hvh := bind_val 8 (.inr rfl) x hx hrd hb1 (.cells #[.int .i64 8, .string x, .int .i64 0, .slice none 0 0, .slice (some ⟨w1.heap.size, 0, none⟩) 1 1] 27)
  have hb3 : Below w.heap.size w ((w1.alloc (.cells #[c0, c1, c2, c3, c4] 27)).alloc (.cells #[.int .i64 8, .string x, .int .i64 0, .slice none 0 0, .slice (some ⟨w1.heap.size, 0, none⟩) 1 1] 27)) := bta (bta hb1 _) _
  have xh : ∀ o', ((w1.alloc (.cells #[c0, c1, c2, c3, c4] 27)).alloc (.cells #[.int .i64 8, .string x, .int .i64 0, .slice none 0 0, .slice (some ⟨w1.heap.size, 0, none⟩) 1 1] 27)).cell? ⟨w1.heap.size + 1, o', none⟩ = #[.int .i64 8, .string x, .int .i64 0, .slice none 0 0, .slice (some ⟨w1.heap.size, 0, none⟩) 1 1][o']? := fun o' => cell_newO _ _ _ _ (by simp) o'
  have xf : ∀ o', ((w1.alloc (.cells #[c0, c1, c2, c3, c4] 27)).alloc (.cells #[.int .i64 8, .string x, .int .i64 0, .slice none 0 0, .slice (some ⟨w1.heap.size, 0, none⟩) 1 1] 27)).cell? ⟨w.heap.size, o', none⟩ = #[c0, c1, c2, c3, c4][o']? := fun o' => (World.cell?_of_block (heap_alloc_old _ _ (by simp; omega))).trans (xk _ o')
  have hs3 : ((w1.alloc (.cells #[c0, c1, c2, c3, c4] 27)).alloc (.cells #[.int .i64 8, .string x, .int .i64 0, .slice none 0 0, .slice (some ⟨w1.heap.size, 0, none⟩) 1 1] 27)).heap.size = w1.heap.size + 2 := by simp
  generalize hW3 : (w1.alloc (.cells #[c0, c1, c2, c3, c4] 27)).alloc (.cells #[.int .i64 8, .string x, .int .i64 0, .slice none 0 0, .slice (some ⟨w1.heap.size, 0, none⟩) 1 1] 27) = W3 at hvh hb3 xh xf hs3
  go_wp2_with (fail)
  clear hW3
  refine (CH.out W3 _ hvh (Below.refl _ _)).mono ?_
  rintro e w4 ⟨rfl, hB4⟩
  have yf := box_cells xf (by omega) hB4
  have yh := box_cells xh (by omega) hB4
  have hb4 := bt2 hb3 hB4
  go_wp2_with (fail)
  refine (DP.out _ hb4).mono ?_
  rintro e w5 ⟨rfl, hB5⟩
  have hb5 := bt2 hb4 hB5
  have zf := box_cells xf (by omega) (bt2 hB4 hB5)
  go_wp2_with (fail)
  refine (SZ.out _ hb5).mono ?_
  rintro e w6 ⟨rfl, hB6⟩
  have hb6 := bt2 hb5 hB6
  go_wp2_with (fail)
  refine (NM.out _).mono ?_
  rintro e w7 ⟨rfl, hB7⟩
  go_wp2
  go_ret
  exact ⟨rfl, bt2 hb6 hB7⟩
set_option maxRecDepth 100000 in
set_option maxHeartbeats 4000000 in
theorem binds_bad8d (C : TreeC) (f : Fm) (v : Value) (x : ByteArray) (w : World) (hv : FmV w f v) (hx : x.size ≤ 9223372036854775807) (hh : ¬ chk nmB (.mk 8 x 0 [] [f]) = 0) (hn : IsName x) (hf : chk nmB f = 0) (hd : ¬ f.deep = 40) (hz : f.size = 500) : Calls Try.prog 8 #[v, .string x, .bool true] w fun e w' => e = .returned (.bool true) ∧ Below w.heap.size w w' := by
  have FX : Hid (∀ w, Calls Try.prog 9 #[] w fun e w' => e = .returned (.bool true) ∧ Below w.heap.size w w') := fun w => lfixed6_at C w
  have CH : Hid (∀ W v, FmV W (.mk 8 x 0 [] [f]) v → ∀ {w1}, Below W.heap.size W w1 → Calls Try.prog 16 #[v] w1 fun e w' => e = .returned (.int .i64 (chk nmB (.mk 8 x 0 [] [f]))) ∧ Below w1.heap.size w1 w') := fun W v h w1 hb => C.check W _ v w1 h hb
  have DP : Hid (∀ w1, Below w.heap.size w w1 → Calls Try.prog 19 #[v] w1 fun e w' => e = .returned (.tuple #[.int .i64 (ok0 f f.deep), .int .i64 (chk nmB f)]) ∧ Below w1.heap.size w1 w') := fun w1 h => C.depth w f v w1 hv h
  have SZ : Hid (∀ w1, Below w.heap.size w w1 → Calls Try.prog 18 #[v] w1 fun e w' => e = .returned (.tuple #[.int .i64 (ok0 f f.size), .int .i64 (chk nmB f)]) ∧ Below w1.heap.size w1 w') := fun w1 h => C.size w f v w1 hv h
  have NM : Hid (∀ w, Calls Try.prog 22 #[.string x] w fun e w' => e = .returned (.bool true) ∧ Below w.heap.size w w') := fun w => name_at x true w hx (by simp [hn])
  rw [ok0, if_pos hf, hf] at DP
  rw [ok0, if_pos hf, hf, hz] at SZ
  have kh : ((chk nmB (.mk 8 x 0 [] [f]) : Int) != 0) = true := by simp; omega
  have kh2 : ((chk nmB (.mk 8 x 0 [] [f]) : Int) == 0) = false := by simp; omega
  generalize chk nmB (.mk 8 x 0 [] [f]) = ch at *
  have kd : ((f.deep : Int) == 40) = false := by simp; omega
  generalize f.deep = dd at *
  clear C hn
  obtain ⟨c0, c1, c2, c3, c4, rfl, hrd⟩ := hv
  obtain ⟨_, hbx⟩ : True ∧ ∀ o', (w.alloc (.cells #[c0, c1, c2, c3, c4] 27)).cell? ⟨w.heap.size, o', none⟩ = #[c0, c1, c2, c3, c4][o']? := ⟨trivial, fun o' => cell_newO _ _ _ _ rfl o'⟩
  go_enter Try.func8, Try.ntmps8
  go_wp2_with (fail)
  refine (FX.out _).mono ?_
  rintro e w1 ⟨rfl, hB1⟩
  obtain ⟨xk, _, x1, _⟩ := res_keep hB1
  have hb1 := ba2 hB1
  have hw1 : w.heap.size < w1.heap.size := by have := hB1.size; simp at this; omega
  have hvh := bind_val 8 (.inr rfl) x hx hrd hb1 (.cells #[.int .i64 8, .string x, .int .i64 0, .slice none 0 0, .slice (some ⟨w1.heap.size, 0, none⟩) 1 1] 27)
  have hb3 : Below w.heap.size w ((w1.alloc (.cells #[c0, c1, c2, c3, c4] 27)).alloc (.cells #[.int .i64 8, .string x, .int .i64 0, .slice none 0 0, .slice (some ⟨w1.heap.size, 0, none⟩) 1 1] 27)) := bta (bta hb1 _) _
  have xh : ∀ o', ((w1.alloc (.cells #[c0, c1, c2, c3, c4] 27)).alloc (.cells #[.int .i64 8, .string x, .int .i64 0, .slice none 0 0, .slice (some ⟨w1.heap.size, 0, none⟩) 1 1] 27)).cell? ⟨w1.heap.size + 1, o', none⟩ = #[.int .i64 8, .string x, .int .i64 0, .slice none 0 0, .slice (some ⟨w1.heap.size, 0, none⟩) 1 1][o']? := fun o' => cell_newO _ _ _ _ (by simp) o'
  have xf : ∀ o', ((w1.alloc (.cells #[c0, c1, c2, c3, c4] 27)).alloc (.cells #[.int .i64 8, .string x, .int .i64 0, .slice none 0 0, .slice (some ⟨w1.heap.size, 0, none⟩) 1 1] 27)).cell? ⟨w.heap.size, o', none⟩ = #[c0, c1, c2, c3, c4][o']? := fun o' => (World.cell?_of_block (heap_alloc_old _ _ (by simp; omega))).trans (xk _ o')
  have hs3 : ((w1.alloc (.cells #[c0, c1, c2, c3, c4] 27)).alloc (.cells #[.int .i64 8, .string x, .int .i64 0, .slice none 0 0, .slice (some ⟨w1.heap.size, 0, none⟩) 1 1] 27)).heap.size = w1.heap.size + 2 := by simp
  generalize hW3 : (w1.alloc (.cells #[c0, c1, c2, c3, c4] 27)).alloc (.cells #[.int .i64 8, .string x, .int .i64 0, .slice none 0 0, .slice (some ⟨w1.heap.size, 0, none⟩) 1 1] 27) = W3 at hvh hb3 xh xf hs3
  go_wp2_with (fail)
  clear hW3
  refine (CH.out W3 _ hvh (Below.refl _ _)).mono ?_
  rintro e w4 ⟨rfl, hB4⟩
  have yf := box_cells xf (by omega) hB4
  have yh := box_cells xh (by omega) hB4
  have hb4 := bt2 hb3 hB4
  go_wp2_with (fail)
  refine (DP.out _ hb4).mono ?_
  rintro e w5 ⟨rfl, hB5⟩
  have hb5 := bt2 hb4 hB5
  have zf := box_cells xf (by omega) (bt2 hB4 hB5)
  go_wp2_with (fail)
  refine (SZ.out _ hb5).mono ?_
  rintro e w6 ⟨rfl, hB6⟩
  have hb6 := bt2 hb5 hB6
  go_wp2_with (fail)
  refine (NM.out _).mono ?_
  rintro e w7 ⟨rfl, hB7⟩
  go_wp2
  go_ret
  exact ⟨rfl, bt2 hb6 hB7⟩
set_option maxRecDepth 100000 in
set_option maxHeartbeats 8000000 in
theorem binds_good8 (C : TreeC) (f : Fm) (v : Value) (x : ByteArray) (w : World) (hv : FmV w f v) (hx : x.size ≤ 9223372036854775807) (hh : chk nmB (.mk 8 x 0 [] [f]) = 0) : Calls Try.prog 8 #[v, .string x, .bool true] w fun e w' => e = .returned (.bool true) ∧ Below w.heap.size w w' := by
  have FX : Hid (∀ w, Calls Try.prog 9 #[] w fun e w' => e = .returned (.bool true) ∧ Below w.heap.size w w') := fun w => lfixed6_at C w
  have hhr := (bind_right 8 (.inr rfl) x f).1 hh
  have hf := hhr.2.1
  have hall := ((chk_iff nmB f).1 hf).2.2
  have hallh := ((chk_iff nmB _).1 hh).2.2
  have CH : Hid (∀ W v, FmV W (.mk 8 x 0 [] [f]) v → ∀ {w1}, Below W.heap.size W w1 → Calls Try.prog 16 #[v] w1 fun e w' => e = .returned (.int .i64 0) ∧ Below w1.heap.size w1 w') := fun W v h w1 hb => by
    have := C.check W _ v w1 h hb
    rwa [hh] at this
  have CF : Hid (∀ w1, Below w.heap.size w w1 → Calls Try.prog 16 #[v] w1 fun e w' => e = .returned (.int .i64 0) ∧ Below w1.heap.size w1 w') := fun w1 h => by
    have := C.check w f v w1 hv h
    rwa [hf] at this
  have FF : Hid (∀ w1, Below w.heap.size w w1 → Calls Try.prog 10 #[v] w1 fun e w' => ∃ v', e = .returned (.tuple #[v', .int .i64 0]) ∧ w'.ownsRow w1.heap.size 9 1 v' (freeF f).length (cellsS (freeF f)) ∧ Below w1.heap.size w1 w') := fun w1 h => by
    have := C.free w f v w1 hv h
    rwa [frOf, if_pos hf, hf] at this
  have FH : Hid (∀ W v, FmV W (.mk 8 x 0 [] [f]) v → ∀ w1, Below W.heap.size W w1 → Calls Try.prog 10 #[v] w1 fun e w' => ∃ v', e = .returned (.tuple #[v', .int .i64 0]) ∧ w'.ownsRow w1.heap.size 9 1 v' ((freeF f).filter (keepB true x)).length (cellsS ((freeF f).filter (keepB true x))) ∧ Below w1.heap.size w1 w') := fun W v h w1 hb => by
    have := C.free W _ v w1 h hb
    rwa [frOf, if_pos hh, hh, bind_free 8 (.inr rfl)] at this
  have PH : Hid (∀ W v, FmV W (.mk 8 x 0 [] [f]) v → ∀ w1, Below W.heap.size W w1 → Calls Try.prog 23 #[v] w1 fun e w' => e = .returned (.tuple #[.bool false, .int .i64 0]) ∧ Below w1.heap.size w1 w') := fun W v h w1 hb => by
    have := C.plain W _ v w1 h hb
    rwa [hh, bind_plain 8 (.inr rfl), Bool.and_false] at this
  have SHH : Hid (∀ W v, FmV W (.mk 8 x 0 [] [f]) v → ∀ w1, Below W.heap.size W w1 → Calls Try.prog 14 #[v, v] w1 fun e w' => e = .returned (.bool true) ∧ Below w1.heap.size w1 w') := fun W v h w1 hb => by
    have := C.same W _ _ v v w1 h h hb
    rwa [show (decide (chk nmB (.mk 8 x 0 [] [f]) = 0) && decide (chk nmB (.mk 8 x 0 [] [f]) = 0) && eqB (Fm.mk 8 x 0 [] [f]) (.mk 8 x 0 [] [f])) = true by rw [hh, eqB_yes rfl]; rfl] at this
  have SHF : Hid (∀ W v v', FmV W (.mk 8 x 0 [] [f]) v → FmV W f v' → ∀ w1, Below W.heap.size W w1 → Calls Try.prog 14 #[v, v'] w1 fun e w' => e = .returned (.bool false) ∧ Below w1.heap.size w1 w') := fun W v v' h h' w1 hb => by
    have := C.same W _ _ v v' w1 h h' hb
    rwa [show (decide (chk nmB (.mk 8 x 0 [] [f]) = 0) && decide (chk nmB f = 0) && eqB (Fm.mk 8 x 0 [] [f]) f) = false by rw [eqB_no (bind_ne 8 x f), Bool.and_false]] at this
  have SM : Hid (∀ ao ao' n c m c' (T : List ByteArray) w, RdS w ao n c T → RdS w ao' m c' T → Calls Try.prog 12 #[.slice ao n c, .slice ao' m c'] w fun e w' => e = .returned (.bool true) ∧ Below w.heap.size w w') := fun ao ao' n c m c' T w h k => lsame_at ao ao' n c m c' T T true w h k ⟨fun _ => rfl, fun _ => rfl⟩
  have hln := freeF_len f
  have hsz := ((chk_iff nmB f).1 hf).1
  have RS : Hid (∀ ao n c w, RdS w ao n c ((freeF f).filter (keepB true x)) → Calls Try.prog 24 #[.slice ao n c] w fun e w' => e = .returned (.bool true) ∧ Below w.heap.size w w') := fun ao n c w h => by
    have hr := freeF_rise hallh
    rw [bind_free 8 (.inr rfl)] at hr
    exact rises_at ao n c _ true w h (short_names ((rise_iff _).1 hr).1) ⟨fun _ => hr, fun _ => rfl⟩
  generalize freeF f = L at *
  have hL5 : L.length ≤ 500 := by omega
  clear C hh hhr hf hall hallh hln hsz
  obtain ⟨c0, c1, c2, c3, c4, rfl, hrd⟩ := hv
  obtain ⟨_, hbx⟩ : True ∧ ∀ o', (w.alloc (.cells #[c0, c1, c2, c3, c4] 27)).cell? ⟨w.heap.size, o', none⟩ = #[c0, c1, c2, c3, c4][o']? := ⟨trivial, fun o' => cell_newO _ _ _ _ rfl o'⟩
  go_enter Try.func8, Try.ntmps8
  go_wp2_with (fail)
  refine (FX.out _).mono ?_
  rintro e w1 ⟨rfl, hB1⟩
  obtain ⟨xk, _, x1, _⟩ := res_keep hB1
  have hb1 := ba2 hB1
  have hw1 : w.heap.size < w1.heap.size := by have := hB1.size; simp at this; omega
  have hvh := bind_val 8 (.inr rfl) x hx hrd hb1 (.cells #[.int .i64 8, .string x, .int .i64 0, .slice none 0 0, .slice (some ⟨w1.heap.size, 0, none⟩) 1 1] 27)
  have hb3 : Below w.heap.size w ((w1.alloc (.cells #[c0, c1, c2, c3, c4] 27)).alloc (.cells #[.int .i64 8, .string x, .int .i64 0, .slice none 0 0, .slice (some ⟨w1.heap.size, 0, none⟩) 1 1] 27)) := bta (bta hb1 _) _
  have xh : ∀ o', ((w1.alloc (.cells #[c0, c1, c2, c3, c4] 27)).alloc (.cells #[.int .i64 8, .string x, .int .i64 0, .slice none 0 0, .slice (some ⟨w1.heap.size, 0, none⟩) 1 1] 27)).cell? ⟨w1.heap.size + 1, o', none⟩ = #[.int .i64 8, .string x, .int .i64 0, .slice none 0 0, .slice (some ⟨w1.heap.size, 0, none⟩) 1 1][o']? := fun o' => cell_newO _ _ _ _ (by simp) o'
  have xf : ∀ o', ((w1.alloc (.cells #[c0, c1, c2, c3, c4] 27)).alloc (.cells #[.int .i64 8, .string x, .int .i64 0, .slice none 0 0, .slice (some ⟨w1.heap.size, 0, none⟩) 1 1] 27)).cell? ⟨w.heap.size, o', none⟩ = #[c0, c1, c2, c3, c4][o']? := fun o' => (World.cell?_of_block (heap_alloc_old _ _ (by simp; omega))).trans (xk _ o')
  have hs3 : ((w1.alloc (.cells #[c0, c1, c2, c3, c4] 27)).alloc (.cells #[.int .i64 8, .string x, .int .i64 0, .slice none 0 0, .slice (some ⟨w1.heap.size, 0, none⟩) 1 1] 27)).heap.size = w1.heap.size + 2 := by simp
  generalize hW3 : (w1.alloc (.cells #[c0, c1, c2, c3, c4] 27)).alloc (.cells #[.int .i64 8, .string x, .int .i64 0, .slice none 0 0, .slice (some ⟨w1.heap.size, 0, none⟩) 1 1] 27) = W3 at hvh hb3 xh xf hs3
  go_wp2_with (fail)
  clear hW3
  refine (CH.out W3 _ hvh (Below.refl _ _)).mono ?_
  rintro e w4 ⟨rfl, hB4⟩
  have yf := box_cells xf (by omega) hB4
  have yh := box_cells xh (by omega) hB4
  have hb4 := bt2 hb3 hB4
  have hvf : FmV W3 f (.agg #[c0, c1, c2, c3, c4]) := ⟨_, _, _, _, _, rfl, hrd.keep hb3⟩
  go_wp2_with (fail)
  refine (CF.out _ hb4).mono ?_
  rintro e w5 ⟨rfl, hB5⟩
  have hb5 := bt2 hb4 hB5
  have hB35 := bt2 hB4 hB5
  have zf := box_cells xf (by omega) hB35
  go_wp2_with (fail)
  refine (FF.out _ hb5).mono ?_
  rintro e w6 ⟨v6, rfl, hO6, hB6⟩
  obtain ⟨a6, r6, rfl, hR6⟩ := rds_of_owns hO6
  have hB36 := bt2 hB35 hB6
  have zh := box_cells xh (by omega) hB36
  go_wp2_with (fail)
  refine (FH.out W3 _ hvh _ hB36).mono ?_
  rintro e w7 ⟨v7, rfl, hO7, hB7⟩
  obtain ⟨a7, r7, rfl, hR7⟩ := rds_of_owns hO7
  have hB37 := bt2 hB36 hB7
  have hRl := hR6.below (Nat.le_refl _) hB7
  have hlc := hRl.lecap
  have hlm := hRl.lemax
  clear CF FF FH CH hO6 hO7 hR6 FX yf yh zf zh
  go_wp2
  go_loopw [18, 81] (fun out i wr => ∃ j : Nat, j ≤ L.length ∧ i = .int .i64 j ∧ wr.ownsRow w7.heap.size 9 1 out ((L.take j).filter (keepB true x)).length (cellsS ((L.take j).filter (keepB true x))) ∧ Below w7.heap.size w7 wr) (fun _ i _ => L.length - (intOf i).toNat)
  case atStart => exact ⟨0, Nat.zero_le _, rfl, by rw [List.take_zero, List.filter_nil]; exact ⟨rfl, .inl ⟨rfl, rfl⟩⟩, Below.refl _ _⟩
  case round =>
    obtain ⟨j, hj, rfl, hO, hBr⟩ := hrel
    have hfl : ((L.take j).filter (keepB true x)).length ≤ 500 := by
      have h1 := List.length_filter_le (keepB true x) (L.take j)
      rw [List.length_take] at h1
      omega
    by_cases hlt : j < L.length
    · obtain ⟨g, of, rfl, hc0⟩ := hRl.cell j hlt
      have hc := (hBr.cell (World.block_lt_of_cell? _ _ hc0)).trans hc0
      have HF : Hid ((L.take (j + 1)).filter (keepB true x) = (L.take j).filter (keepB true x) ++ (if keepB true x (L.getD j emp) = true then [L.getD j emp] else [])) := filter_take _ L j hlt
      generalize L.getD j emp = y at *
      cases hq : (y.toList == x.toList) with
      | true =>
        have HK : Hid ((L.take (j + 1)).filter (keepB true x) = (L.take j).filter (keepB true x)) := by
          show _ = _
          rw [HF.out, keepB, hq, if_neg (by decide), List.append_nil]
        clear HF
        generalize (L.take j).filter (keepB true x) = P at *
        go_wp2
        go_roundw
        case rel => exact ⟨j + 1, by omega, by go_num, by rw [HK.out]; exact hO, hBr⟩
        case measure => simp [intOf]; omega
      | false =>
        have HK : Hid ((L.take (j + 1)).filter (keepB true x) = (L.take j).filter (keepB true x) ++ [y]) := by
          show _ = _
          rw [HF.out, keepB, hq, if_pos (by decide)]
        clear HF
        generalize (L.take j).filter (keepB true x) = P at *
        go_wp2_with (at_builtin; refine wp_pushS w7 _ w7.heap.size w7.heap.size rfl (.tmp 88) (.tmp 90) rfl _ P.length P rfl wr.heap.size y rfl (hO.alloc _) (cell_new1 _ _ _) (size_new1 hBr.size _) (by omega) (hBr.alloc hBr.size _) (Nat.le_refl _) ?_; intro v8 w8 hO8 hB8)
        go_roundw
        case rel => exact ⟨j + 1, by omega, by go_num, by rw [HK.out, List.length_append]; exact hO8, hB8⟩
        case measure => simp [intOf]; omega
    · obtain rfl : j = L.length := by omega
      have hlt' : decide (L.length < L.length) = false := decide_eq_false (by omega)
      rw [List.take_of_length_le (Nat.le_refl _)] at hO hfl
      obtain ⟨a8, r8, rfl, hR8⟩ := rds_of_owns hO
      have hB38 := bt2 hB37 hBr
      have uh := box_cells xh (by omega) hB38
      have hR7' := hR7.below (Nat.le_refl _) hBr
      clear hO hRl hR7
      go_wp2_with (fail)
      refine (PH.out W3 _ hvh _ hB38).mono ?_
      rintro e w9 ⟨rfl, hB9⟩
      have hB39 := bt2 hB38 hB9
      go_wp2_with (fail)
      refine (SM.out _ _ _ _ _ _ _ _ (hR7'.below (Nat.le_refl _) hB9) (hR8.below (Nat.le_refl _) hB9)).mono ?_
      rintro e wa ⟨rfl, hBa⟩
      have hB3a := bt2 hB39 hBa
      go_wp2_with (fail)
      refine (RS.out _ _ _ _ (hR7'.below (Nat.le_refl _) (bt2 hB9 hBa))).mono ?_
      rintro e wb ⟨rfl, hBb⟩
      have hB3b := bt2 hB3a hBb
      have vh := box_cells xh (by omega) hB3b
      go_wp2_with (fail)
      refine (SHH.out W3 _ hvh _ hB3b).mono ?_
      rintro e wc ⟨rfl, hBc⟩
      have hB3c := bt2 hB3b hBc
      have th := box_cells xh (by omega) hB3c
      have tf := box_cells xf (by omega) hB3c
      go_wp2_with (fail)
      refine (SHF.out W3 _ _ hvh hvf _ hB3c).mono ?_
      rintro e wd ⟨rfl, hBd⟩
      go_wp2
      go_ret
      exact ⟨rfl, bt2 hb3 (bt2 hB3c hBd)⟩
theorem binds_walk (C : TreeC) (f : Fm) (v : Value) (x : ByteArray) (b : Bool) (w : World) (hv : FmV w f v) (hx : x.size ≤ 9223372036854775807) : Calls Try.prog 8 #[v, .string x, .bool b] w fun e w' => e = .returned (.bool true) ∧ Below w.heap.size w w' := by
  cases b with
  | false =>
    by_cases hh : chk nmB (.mk 7 x 0 [] [f]) = 0
    · exact binds_good7 C f v x w hv hx hh
    · by_cases hn : IsName x
      · by_cases hf : chk nmB f = 0
        · by_cases hd : f.deep = 40
          · exact binds_bad7c C f v x w hv hx hh hn hf hd
          · exact binds_bad7d C f v x w hv hx hh hn hf hd (Decidable.byContradiction (fun hz => hh ((bind_right 7 (.inl rfl) x f).2 ⟨hn, hf, hz, hd⟩)))
        · exact binds_bad7b C f v x w hv hx hh hn hf
      · exact binds_bad7a C f v x w hv hx hh hn
  | true =>
    by_cases hh : chk nmB (.mk 8 x 0 [] [f]) = 0
    · exact binds_good8 C f v x w hv hx hh
    · by_cases hn : IsName x
      · by_cases hf : chk nmB f = 0
        · by_cases hd : f.deep = 40
          · exact binds_bad8c C f v x w hv hx hh hn hf hd
          · exact binds_bad8d C f v x w hv hx hh hn hf hd (Decidable.byContradiction (fun hz => hh ((bind_right 8 (.inr rfl) x f).2 ⟨hn, hf, hz, hd⟩)))
        · exact binds_bad8b C f v x w hv hx hh hn hf
      · exact binds_bad8a C f v x w hv hx hh hn
end Go.Proofs.Ytiihabecncnbcaa.Gl
