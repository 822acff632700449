/- ParseStops. -/
import Derived.Test.YtabfhdmcljdjhaaDoorPcU
import Derived.Test.YtabfhdmcljdjhaaDoorPaH
namespace Go.Proofs.YtabfhdmcljdjhaaDoor.Gl
open Go.RowKit
set_option linter.unusedVariables false
set_option linter.unusedSimpArgs false

/- what an answer's number may be -/
theorem made_three {s : ByteArray} {a : List Wd} {f : Fm} {q : Nat} (hs : s.size ≤ 4096) (hl : Lx s 0 a none) (hf : Fin6 a (.ok f q)) : chk nmB f = 0 ∨ chk nmB f = 72 ∨ chk nmB f = 73 := chk_made (hf.made (hl.goodw hs)).1
theorem An.kinds {s : ByteArray} {o : Option Fm} {c b k : Nat} (h : An s o c b k) : (c = 0 ∧ ∃ f, o = some f ∧ chk nmB f = 0) ∨ (c ≠ 0 ∧ o = none) := by
  cases h with
  | long _ => exact .inr ⟨by decide, rfl⟩
  | lex _ hl => have := hl.cs (c := 0) (q := 0) _ _ rfl; exact .inr ⟨by omega, rfl⟩
  | bad _ _ hf => have := hf.why.1; exact .inr ⟨by omega, rfl⟩
  | many _ _ _ hc => exact .inr ⟨hc, rfl⟩
  | ok _ _ _ hc => exact .inl ⟨rfl, _, rfl, hc⟩
/-- gone wrong by the grammar, ahead of the end -/
theorem An.gram {s : ByteArray} {o : Option Fm} {b k : Nat} (h : An s o 71 b k) (hb : b < s.size) : ∃ a q y, s.size ≤ 4096 ∧ Lx s 0 a none ∧ Fin6 a (.bad 71 q) ∧ a[q]? = some y ∧ y.byte = b ∧ k = cnt (s.extract 0 y.byte) ∧ o = none := by
  generalize hc : 71 = c at h
  cases h with
  | long _ => omega
  | lex _ hl => have := hl.cs (c := 0) (q := 0) _ _ rfl; omega
  | many h1 h2 h3 _ => have := made_three h1 h2 h3; omega
  | ok _ _ _ _ => omega
  | @bad a y q hs hl hf =>
    subst hc
    cases hq : a[q]? with
    | none => simp [pcB, hq] at hb
    | some y => exact ⟨a, q, y, hs, hl, hf, hq, by simp [pcB, hq], by simp [pcC, hq], rfl⟩
/-- what stands ahead of that word -/
theorem head_an {s : ByteArray} {a : List Wd} {q : Nat} {y : Wd} (hs : s.size ≤ 4096) (hl : Lx s 0 a none) (hf : Fin6 a (.bad 71 q)) (hy : a[q]? = some y) (hb : y.byte < s.size) : ∃ o c b k, An (s.extract 0 y.byte) o c b k ∧ ((c = 71 ∧ b = (s.extract 0 y.byte).size) ∨ c = 0 ∨ c = 72 ∨ c = 73) := by
  have hz : (s.extract 0 y.byte).size = y.byte := by rw [size_win s 0 _ (by omega)]; omega
  have hh := hl.cutw q y hy
  obtain ⟨hc, hlen⟩ := hf.cut
  have hno : (a.take q)[q]? = none := List.getElem?_eq_none (by omega)
  rcases hc with hc | ⟨f, hc⟩
  · have hb' : pcB (s.extract 0 y.byte) (a.take q) q = (s.extract 0 y.byte).size := by simp [pcB, hno]
    exact ⟨_, _, _, _, .bad (by omega) hh hc, .inl ⟨rfl, hb'⟩⟩
  · rcases made_three (by omega) hh hc with h0 | h0 | h0
    · exact ⟨_, _, _, _, .ok (by omega) hh hc h0, .inr (.inl rfl)⟩
    · exact ⟨_, _, _, _, .many (by omega) hh hc (by omega), .inr (.inr (.inl h0))⟩
    · exact ⟨_, _, _, _, .many (by omega) hh hc (by omega), .inr (.inr (.inr h0))⟩
/-- with more behind -/
theorem more_an {s t : ByteArray} {a : List Wd} {q : Nat} {y : Wd} (hs : s.size ≤ 4096) (hl : Lx s 0 a none) (hf : Fin6 a (.bad 71 q)) (hy : a[q]? = some y) (hb : y.byte < s.size) : ∃ o c b k, An (s ++ blk ++ t) o c b k ∧ ((c = 71 ∧ b = y.byte ∧ k = cnt (s.extract 0 y.byte)) ∨ c = 50 ∨ c = 51 ∨ c = 52 ∨ c = 6 ∨ c = 70) := by
  by_cases hu : 4096 < (s ++ blk ++ t).size
  · exact ⟨_, _, _, _, .long hu, .inr (.inr (.inr (.inr (.inr rfl))))⟩
  · obtain ⟨b, g, hb'⟩ := Lx.ex t
    have hj := join_lx hl hb'
    cases g with
    | some cp =>
      obtain ⟨c, p⟩ := cp
      have hc := hb'.cs (c := 0) (q := 0) _ _ rfl
      exact ⟨_, _, _, _, .lex (by omega) hj, .inr (by show c = 50 ∨ c = 51 ∨ c = 52 ∨ c = 6 ∨ c = 70; omega)⟩
    | none =>
      have hq : q < a.length := (List.getElem?_eq_some_iff.1 hy).1
      have hm := hf.more hq (b.map (Wd.move (s.size + 1)))
      have hy' : (a ++ b.map (Wd.move (s.size + 1)))[q]? = some y := by rw [List.getElem?_append_left hq]; exact hy
      have he : (s ++ blk ++ t).extract 0 y.byte = s.extract 0 y.byte := by
        have := extract_sim (sim_left s t) (p := 0) (q := y.byte) (by omega)
        simpa using this
      refine ⟨_, _, _, _, .bad (by omega) hj hm, .inl ⟨rfl, by simp [pcB, hy'], ?_⟩⟩
      simp only [pcC, hy']
      rw [he]
set_option maxHeartbeats 1000000 in
theorem great_at (c b k : Nat) (r : Bool) (w : World) (hr : r = true ↔ c = 70 ∨ c = 73 ∨ c = 72) :
    Calls Tryd.prog 10 #[fau c b k] w fun e w' => e = .returned (.bool r) ∧ Below w.heap.size w w' := by
  by_cases h : c = 70 ∨ c = 73 ∨ c = 72
  · obtain rfl : r = true := hr.2 h
    clear hr
    rcases h with rfl | rfl | rfl
    all_goals
      go_enter Tryd.func10, Tryd.ntmps10
      go_wp2
      go_ret
      exact ⟨rfl, bal w _⟩
  · obtain rfl : r = false := by cases r with | false => rfl | true => exact absurd (hr.1 rfl) h
    have h1 : ((c : Int) == 70) = false := by rw [beq_eq_false_iff_ne]; omega
    have h2 : ((c : Int) == 73) = false := by rw [beq_eq_false_iff_ne]; omega
    have h3 : ((c : Int) == 72) = false := by rw [beq_eq_false_iff_ne]; omega
    clear hr h
    go_enter Tryd.func10, Tryd.ntmps10
    go_wp2
    go_ret
    exact ⟨rfl, bal w _⟩
abbrev tauF (v : Value) (c b k : Nat) : Value := .tuple #[v, fau c b k]
abbrev flC (c b k : Nat) : Array Value := #[.int .i64 (c : Nat), .int .i64 (b : Nat), .int .i64 (k : Nat)]
set_option maxRecDepth 100000 in
set_option maxHeartbeats 2000000 in
theorem stops_plain (s t : ByteArray) (o : Option Fm) (c b k : Nat) (w : World) (h : An s o c b k) (hS : Sg w) (h64 : s.size ≤ 9223372036854775807) (hc : c ≠ 71 ∨ s.size ≤ b) :
    Calls Tryd.prog 5 #[.string s, .string t] w fun e w' => e = .returned (.bool true) ∧ Below w.heap.size w w' := by
  have FC := mkHid (formula_any h)
  have HK := mkHid h.kinds
  have FX := mkHid lfixed_at
  clear h
  by_cases h71 : c = 71
  · have hsb : (s.size : Int) ≤ (b : Int) := by omega
    subst h71
    clear hc
    go_enter Tryd.func5, Tryd.ntmps5
    go_wp2_with (go_at_call 6; refine (FX.out _ hS).mono ?_; rintro e w1 ⟨rfl, hB1⟩)
    refine (FC.out _ (hS.below hB1) h64).mono ?_
    rintro e w2 ⟨v, rfl, ⟨op, xs, m, bo, n1, c1, lo, ln, lc, rfl, -, -⟩, hB2⟩
    go_wp2
    go_ret
    exact ⟨rfl, bta (bta (bt2 hB1 hB2) _) _⟩
  · have hn : ((c : Int) == 71) = false := by rw [beq_eq_false_iff_ne]; omega
    rcases HK.out with ⟨rfl, f, rfl, hf⟩ | ⟨h0, rfl⟩
    · clear hc HK
      go_enter Tryd.func5, Tryd.ntmps5
      go_wp2_with (go_at_call 6; refine (FX.out _ hS).mono ?_; rintro e w1 ⟨rfl, hB1⟩)
      refine (FC.out _ (hS.below hB1) h64).mono ?_
      rintro e w2 ⟨v, rfl, ⟨op, xs, m, bo, n1, c1, lo, ln, lc, rfl, -, hs⟩, hB2⟩
      have hv : FmV w2 f (.agg #[.int .i64 op, .string xs, .int .i64 m, .slice bo n1 c1, .slice lo ln lc]) := ⟨_, _, _, _, _, rfl, (hs f rfl).plain⟩
      have CK := mkHid (fun wz hb => check_run w2 f _ wz hv hb)
      have hBx : Below w2.heap.size w2 ((w2.alloc (.cells #[.int .i64 op, .string xs, .int .i64 m, .slice bo n1 c1, .slice lo ln lc] 27)).alloc (.cells (flC 0 b k) 36)) := bta (bal w2 _) _
      rw [hf] at CK
      clear hs hv hf
      go_wp2_with (go_at_call 12; refine (CK.out _ hBx).mono ?_; rintro e w3 ⟨rfl, hB3⟩)
      go_ret
      exact ⟨rfl, bt2 (bta (bta (bt2 hB1 hB2) _) _) hB3⟩
    · have hn0 : ((c : Int) == 0) = false := by rw [beq_eq_false_iff_ne]; omega
      clear hc HK
      go_enter Tryd.func5, Tryd.ntmps5
      go_wp2_with (go_at_call 6; refine (FX.out _ hS).mono ?_; rintro e w1 ⟨rfl, hB1⟩)
      refine (FC.out _ (hS.below hB1) h64).mono ?_
      rintro e w2 ⟨v, rfl, ⟨op, xs, m, bo, n1, c1, lo, ln, lc, rfl, -, -⟩, hB2⟩
      go_wp2
      go_ret
      exact ⟨rfl, bta (bta (bt2 hB1 hB2) _) _⟩
set_option maxRecDepth 100000 in
set_option maxHeartbeats 4000000 in
theorem stops_deep (s t : ByteArray) (b k : Nat) (w : World) (hS : Sg w) (h64 : s.size ≤ 9223372036854775807) (hst : s.size + 1 + t.size ≤ 9223372036854775807) (hb : b < s.size) (h : An s none 71 b k)
    (o2 : Option Fm) (c2 b2 k2 : Nat) (h2 : An (s.extract 0 b) o2 c2 b2 k2) (hc2 : (c2 = 71 ∧ b2 = b) ∨ c2 = 0 ∨ c2 = 72 ∨ c2 = 73)
    (o3 : Option Fm) (c3 b3 k3 : Nat) (h3 : An (s ++ blk ++ t) o3 c3 b3 k3) (hc3 : (c3 = 71 ∧ b3 = b ∧ k3 = k) ∨ c3 = 50 ∨ c3 = 51 ∨ c3 = 52 ∨ c3 = 6 ∨ c3 = 70) :
    Calls Tryd.prog 5 #[.string s, .string t] w fun e w' => e = .returned (.bool true) ∧ Below w.heap.size w w' := by
  have hz : (s.extract 0 b).size = b := by rw [size_win s 0 _ (by omega)]; omega
  have hbk : blk.size = 1 := rfl
  have hz1 : (s ++ blk).size = s.size + 1 := by rw [ByteArray.size_append]; rfl
  have hz2 : (s ++ blk ++ t).size = s.size + 1 + t.size := by rw [ByteArray.size_append, hz1]
  have FC := mkHid (formula_any h)
  have FD := mkHid (formula_any h2)
  have FE := mkHid (formula_any h3)
  have FX := mkHid lfixed_at
  have H2 := mkHid hc2
  have H3 := mkHid hc3
  clear h h2 h3 hc2 hc3
  go_enter Tryd.func5, Tryd.ntmps5
  go_wp2_with (go_at_call 6; refine (FX.out _ hS).mono ?_; rintro e w1 ⟨rfl, hB1⟩)
  refine (FC.out _ (hS.below hB1) h64).mono ?_
  rintro e w2 ⟨v, rfl, ⟨op, xs, m, bo, n1, c1, lo, ln, lc, rfl, -, -⟩, hB2⟩
  have hX6 : Rb ((w2.alloc (.cells #[.int .i64 op, .string xs, .int .i64 m, .slice bo n1 c1, .slice lo ln lc] 27)).alloc (.cells (flC 71 b k) 36)) (w2.heap.size + 1) (flC 71 b k) 36 := by
    have := rb_new (w2.alloc (.cells #[.int .i64 op, .string xs, .int .i64 m, .slice bo n1 c1, .slice lo ln lc] 27)) (flC 71 b k) 36
    rwa [World.size_alloc] at this
  have hS3 := ((hS.below (bt2 hB1 hB2)).alloc (.cells #[.int .i64 op, .string xs, .int .i64 m, .slice bo n1 c1, .slice lo ln lc] 27)).alloc (.cells (flC 71 b k) 36)
  have hB3 := bta (bta (bt2 hB1 hB2) (.cells #[.int .i64 op, .string xs, .int .i64 m, .slice bo n1 c1, .slice lo ln lc] 27)) (.cells (flC 71 b k) 36)
  go_wp2_with (fail)
  refine (FD.out _ hS3 (by omega)).mono ?_
  rintro e w4 ⟨v2, rfl, ⟨op2, xs2, m2, bo2, n12, c12, lo2, ln2, lc2, rfl, -, -⟩, hB4⟩
  have hs4 := hB4.size
  rw [World.size_alloc, World.size_alloc] at hs4
  have hs2 := (bt2 hB1 hB2).size
  have hX6b := ((hX6.keep hB4).keep (bal w4 (.cells #[.int .i64 op2, .string xs2, .int .i64 m2, .slice bo2 n12 c12, .slice lo2 ln2 lc2] 27))).keep (bal _ (.cells (flC c2 b2 k2) 36))
  have hX8b : Rb ((w4.alloc (.cells #[.int .i64 op2, .string xs2, .int .i64 m2, .slice bo2 n12 c12, .slice lo2 ln2 lc2] 27)).alloc (.cells (flC c2 b2 k2) 36)) (w4.heap.size + 1) (flC c2 b2 k2) 36 := by
    have := rb_new (w4.alloc (.cells #[.int .i64 op2, .string xs2, .int .i64 m2, .slice bo2 n12 c12, .slice lo2 ln2 lc2] 27)) (flC c2 b2 k2) 36
    rwa [World.size_alloc] at this
  have hS5 := ((hS3.below hB4).alloc (.cells #[.int .i64 op2, .string xs2, .int .i64 m2, .slice bo2 n12 c12, .slice lo2 ln2 lc2] 27)).alloc (.cells (flC c2 b2 k2) 36)
  have hB5 := bta (bta (bt2 hB3 hB4) (.cells #[.int .i64 op2, .string xs2, .int .i64 m2, .slice bo2 n12 c12, .slice lo2 ln2 lc2] 27)) (.cells (flC c2 b2 k2) 36)
  rcases H2.out with ⟨rfl, rfl⟩ | rfl | rfl | rfl
  · clear H2
    go_wp2_with (fail)
    refine (FE.out _ hS5 (by omega)).mono ?_
    rintro e w6 ⟨v3, rfl, ⟨op3, xs3, m3, bo3, n13, c13, lo3, ln3, lc3, rfl, -, -⟩, hB6⟩
    have hX9 := (hX8b).keep hB6
    have hX7 := (hX6b).keep hB6
    obtain ⟨a0, g0⟩ := txcell hX9 0 _ rfl
    obtain ⟨a1, g1⟩ := txcell hX9 1 _ rfl
    obtain ⟨a2, g2⟩ := txcell hX9 2 _ rfl
    obtain ⟨x0, -⟩ := txcell hX7 0 _ rfl
    obtain ⟨x1, -⟩ := txcell hX7 1 _ rfl
    obtain ⟨x2, -⟩ := txcell hX7 2 _ rfl
    rcases H3.out with ⟨rfl, rfl, rfl⟩ | rfl | rfl | rfl | rfl | rfl
    all_goals
      go_wp2
      go_ret
      exact ⟨rfl, bel_st3 (bt2 hB5 hB6) (by omega) _ _ _⟩
  · clear H2
    go_wp2_with (fail)
    refine (FE.out _ hS5 (by omega)).mono ?_
    rintro e w6 ⟨v3, rfl, ⟨op3, xs3, m3, bo3, n13, c13, lo3, ln3, lc3, rfl, -, -⟩, hB6⟩
    have hX9 := (hX8b).keep hB6
    have hX7 := (hX6b).keep hB6
    obtain ⟨a0, g0⟩ := txcell hX9 0 _ rfl
    obtain ⟨a1, g1⟩ := txcell hX9 1 _ rfl
    obtain ⟨a2, g2⟩ := txcell hX9 2 _ rfl
    obtain ⟨x0, -⟩ := txcell hX7 0 _ rfl
    obtain ⟨x1, -⟩ := txcell hX7 1 _ rfl
    obtain ⟨x2, -⟩ := txcell hX7 2 _ rfl
    rcases H3.out with ⟨rfl, rfl, rfl⟩ | rfl | rfl | rfl | rfl | rfl
    all_goals
      go_wp2
      go_ret
      exact ⟨rfl, bel_st3 (bt2 hB5 hB6) (by omega) _ _ _⟩
  · clear H2
    go_wp2_with (go_at_call 10; refine (great_at 72 b2 k2 true _ (by decide)).mono ?_; rintro e w5 ⟨rfl, hBg⟩)
    refine (FE.out _ (hS5.below hBg) (by omega)).mono ?_
    rintro e w6 ⟨v3, rfl, ⟨op3, xs3, m3, bo3, n13, c13, lo3, ln3, lc3, rfl, -, -⟩, hB6⟩
    have hX9 := (hX8b.keep hBg).keep hB6
    have hX7 := (hX6b.keep hBg).keep hB6
    obtain ⟨a0, g0⟩ := txcell hX9 0 _ rfl
    obtain ⟨a1, g1⟩ := txcell hX9 1 _ rfl
    obtain ⟨a2, g2⟩ := txcell hX9 2 _ rfl
    obtain ⟨x0, -⟩ := txcell hX7 0 _ rfl
    obtain ⟨x1, -⟩ := txcell hX7 1 _ rfl
    obtain ⟨x2, -⟩ := txcell hX7 2 _ rfl
    rcases H3.out with ⟨rfl, rfl, rfl⟩ | rfl | rfl | rfl | rfl | rfl
    all_goals
      go_wp2
      go_ret
      exact ⟨rfl, bel_st3 (bt2 (bt2 hB5 hBg) hB6) (by omega) _ _ _⟩
  · clear H2
    go_wp2_with (go_at_call 10; refine (great_at 73 b2 k2 true _ (by decide)).mono ?_; rintro e w5 ⟨rfl, hBg⟩)
    refine (FE.out _ (hS5.below hBg) (by omega)).mono ?_
    rintro e w6 ⟨v3, rfl, ⟨op3, xs3, m3, bo3, n13, c13, lo3, ln3, lc3, rfl, -, -⟩, hB6⟩
    have hX9 := (hX8b.keep hBg).keep hB6
    have hX7 := (hX6b.keep hBg).keep hB6
    obtain ⟨a0, g0⟩ := txcell hX9 0 _ rfl
    obtain ⟨a1, g1⟩ := txcell hX9 1 _ rfl
    obtain ⟨a2, g2⟩ := txcell hX9 2 _ rfl
    obtain ⟨x0, -⟩ := txcell hX7 0 _ rfl
    obtain ⟨x1, -⟩ := txcell hX7 1 _ rfl
    obtain ⟨x2, -⟩ := txcell hX7 2 _ rfl
    rcases H3.out with ⟨rfl, rfl, rfl⟩ | rfl | rfl | rfl | rfl | rfl
    all_goals
      go_wp2
      go_ret
      exact ⟨rfl, bel_st3 (bt2 (bt2 hB5 hBg) hB6) (by omega) _ _ _⟩
/-- every way -/
theorem stops_walk (s t : ByteArray) (w : World) (hS : Sg w) (h64 : s.size ≤ 9223372036854775807) (hst : s.size + 1 + t.size ≤ 9223372036854775807) :
    Calls Tryd.prog 5 #[.string s, .string t] w fun e w' => e = .returned (.bool true) ∧ Below w.heap.size w w' := by
  obtain ⟨o, c, b, k, h⟩ := An.ex s
  by_cases hc : c ≠ 71 ∨ s.size ≤ b
  · exact stops_plain s t o c b k w h hS h64 hc
  · obtain rfl : c = 71 := by omega
    have hb : b < s.size := by omega
    obtain ⟨a, q, y, hs, hl, hf, hy, hyb, hk, rfl⟩ := h.gram hb
    subst hyb
    obtain ⟨o2, c2, b2, k2, h2, hc2⟩ := head_an hs hl hf hy hb
    obtain ⟨o3, c3, b3, k3, h3, hc3⟩ := more_an (t := t) hs hl hf hy hb
    rw [← hk] at hc3
    have hz : (s.extract 0 y.byte).size = y.byte := by rw [size_win s 0 _ (by omega)]; omega
    rw [hz] at hc2
    exact stops_deep s t y.byte k w hS h64 hst hb h o2 c2 b2 k2 h2 hc2 o3 c3 b3 k3 h3 hc3
end Go.Proofs.YtabfhdmcljdjhaaDoor.Gl
