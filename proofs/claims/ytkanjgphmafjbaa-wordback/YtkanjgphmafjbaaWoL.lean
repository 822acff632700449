/- Layer 3: Trim. -/
import Derived.Test.YtkanjgphmafjbaaWoF
import Derived.Test.YtkanjgphmafjbaaWoK
import Derived.Laws.CopyOwn
namespace Go.Proofs.Ytkanjgphmafjbaa.Wo
open Go.RowKit
set_option linter.unusedVariables false

theorem below_drews (B : Nat) (w : World) (n : Nat) : Below B w (w.drewN n) := by
  induction n with
  | zero => exact Below.refl _ _
  | succ n ih => exact ih.drew
theorem drewN_size (w : World) (n : Nat) : (w.drewN n).heap.size = w.heap.size := by
  induction n with
  | zero => rfl
  | succ n ih => exact ih
theorem trim_length (zs : List Int) : (trim zs).length = trimN zs zs.length := by
  unfold trim
  have := trimN_le zs zs.length
  rw [List.length_take]; omega
theorem RdZ.cut {w : World} {ao : Option Addr} {len cap : Nat} {zs : List Int} (h : RdZ w ao len cap zs) {n : Nat} (hn : n ≤ len) : RdZ w ao n cap (zs.take n) := by
  refine ⟨by rw [List.length_take, h.eqlen]; omega, by have := h.lecap; omega, h.lemax, h.isnil, fun i hi => ?_⟩
  obtain ⟨b, off, rfl, hc⟩ := h.cell i (by omega)
  refine ⟨b, off, rfl, ?_⟩
  rw [hc, List.getD_eq_getElem?_getD, List.getD_eq_getElem?_getD, List.getElem?_take, if_pos hi]
theorem sizeI : (Try.prog.info? 3).map (·.size) = some 1 := by kernel_rfl
/-- 'copy(row, word)' into a row of the call's own, no longer than the word -/
theorem copy_runZ (w0 W : World) (B base g2 m : Nat) (zs : List Int) (Z : List Value) (ad : Addr) (sl sc : Nat)
    (hown : W.ownsRow base 3 1 (.slice (some ⟨g2, 0, none⟩) m m) m Z) (hsl : m ≤ sl) (hzl : zs.length = m) (hcell : ∀ j u, (cellsZ zs)[j]? = some u → W.cell? (ad.add j) = some u) (hb : Below B w0 W) (hBg : B ≤ g2) :
    ∃ w', (Builtin.copy_ #[22, 22] 3 #[.slice (some ⟨g2, 0, none⟩) m m, .slice (some ad) sl sc]).run Try.prog W = .ok (goInt m) w' ∧ w'.ownsRow base 3 1 (.slice (some ⟨g2, 0, none⟩) m m) m (cellsZ zs) ∧ Below B w0 w' := by
  rcases hown.2 with ⟨e, _⟩ | ⟨g', cap, cur, e, hbg, hh, _, hcm, hcs, _⟩
  · cases e
  · simp only [Value.slice.injEq, Option.some.injEq, Addr.mk.injEq, and_true, true_and] at e
    obtain ⟨rfl, rfl⟩ := e
    have hl : (cellsZ zs).length = m := by rw [List.length_map, hzl]
    have hrun := run_copy_row (P := Try.prog) W 22 22 3 3 g2 0 m m ad sl sc cur 3 (cellsZ zs) Try.underlying22 sizeI hh (by rw [hl]; exact (Nat.min_eq_right hsl).symm) hcell (by omega) ?_
    · rw [hl] at hrun
      refine ⟨_, hrun, ?_, below_setRow hb hBg _⟩
      have hw := setRow_heap W g2 cur (cur.toList.take 0 ++ cellsZ zs ++ cur.toList.drop (0 + m)).toArray 3 (0, 0) hh
      have he : cur.toList.take 0 ++ cellsZ zs ++ cur.toList.drop (0 + m) = cellsZ zs := by
        rw [List.take_zero, List.nil_append, Nat.zero_add, List.drop_of_length_le (by simp only [Array.length_toList]; omega), List.append_nil]
      rw [he] at hw ⊢
      refine ⟨by omega, .inr ⟨g2, m, _, rfl, hbg, hw, Nat.le_refl _, hcm, by simpa using hl, ?_⟩⟩
      simp only [Nat.mul_one]
      exact List.take_of_length_le (by omega)
    · intro v hv
      obtain ⟨_, _, rfl⟩ := List.mem_map.1 hv
      rfl
theorem cells_arg {W : World} {b off n cap : Nat} {zs : List Int} (h : RdZ W (some ⟨b, off, none⟩) n cap zs) : ∀ j u, (cellsZ zs)[j]? = some u → W.cell? ((⟨b, off, none⟩ : Addr).add j) = some u := by
  intro j u hj
  rw [List.getElem?_map] at hj
  by_cases hjl : j < zs.length
  · rw [List.getElem?_eq_getElem hjl] at hj
    simp only [Option.map_some, Option.some.injEq] at hj
    subst hj
    obtain ⟨b', off', e, h1⟩ := h.cell j (by rw [← h.eqlen]; exact hjl)
    obtain ⟨rfl, rfl⟩ : b = b' ∧ off = off' := by simpa using e
    rw [List.getD_eq_getElem?_getD, List.getElem?_eq_getElem hjl] at h1
    rw [Go.WideShapes.add_plain]
    exact h1
  · rw [List.getElem?_eq_none (by omega)] at hj
    simp at hj
set_option maxHeartbeats 1000000 in
theorem trim_some (b off : Nat) (len cap : Nat) (zs : List Int) (w : World) (h : RdZ w (some ⟨b, off, none⟩) len cap zs) (hm : len * 8 ≤ 140737488351232) :
    Calls Try.prog 25 #[.slice (some ⟨b, off, none⟩) len cap] w fun e w' => ∃ g, e = .returned (.slice (some ⟨g, 0, none⟩) (trim zs).length (trim zs).length) ∧ w'.ownsRow w.heap.size 3 1 (.slice (some ⟨g, 0, none⟩) (trim zs).length (trim zs).length) (trim zs).length (cellsZ (trim zs)) ∧ Below w.heap.size w w' := by
  obtain ⟨ii, hi, hi0, hi1, hi2⟩ := info_parts Try.infoInt
  have hcap := h.lecap
  have hmax := h.lemax
  have HL : Hid (zs.length = len) := h.eqlen
  go_enter Try.func25, Try.ntmps25
  go_wp2
  go_loopw [3] (fun i wr => ∃ n : Nat, n ≤ len ∧ i = .int .i64 n ∧ Hid (trimN zs len = trimN zs n) ∧ Below w.heap.size w wr) (fun i _ => (intOf i).toNat)
  case atStart => exact ⟨len, Nat.le_refl _, rfl, rfl, Below.refl _ _⟩
  case round =>
    obtain ⟨n, hn, rfl, hinv, hB⟩ := hrel
    have hfin : ∀ k, trimN zs len = k → k ≤ len → (trim zs).length = k ∧ trim zs = zs.take k := fun k hk hk' => by
      refine ⟨by rw [trim_length, HL.out, hk], by unfold trim; rw [HL.out, hk]⟩
    have HFIN : Hid _ := hfin
    clear hfin
    by_cases h2 : 2 ≤ n
    · obtain ⟨q, rfl⟩ : ∃ q, n = q + 2 := ⟨n - 2, by omega⟩
      obtain ⟨b1, off1, e1, hc1⟩ := (h.below (Nat.le_refl _) hB).cell (q + 1) (by omega)
      obtain ⟨b2, off2, e2, hc2⟩ := (h.below (Nat.le_refl _) hB).cell q (by omega)
      obtain ⟨rfl, rfl⟩ : b = b1 ∧ off = off1 := by simpa using e1
      obtain ⟨rfl, rfl⟩ : b = b2 ∧ off = off2 := by simpa using e2
      have i1 : ((q : Int) + 2 - 1).toNat = q + 1 := by omega
      have i2 : ((q : Int) + 2 - 2).toNat = q := by omega
      clear e1 e2
      have hd : decide ((2 : Int) ≤ (q : Int) + 2) = true := decide_eq_true (by omega)
      by_cases hs : zs.getD (q + 1) 0 = zs.getD q 0
      · have HS : Hid (trimN zs len = trimN zs (q + 1)) := by
          show _ = _
          rw [hinv.out, trimN, if_pos hs]
        rw [hs] at hc1
        generalize hx : zs.getD q 0 = x at *
        clear hs hx
        go_wp2
        go_quiet (fail)
        go_wp2
        go_roundw
        case rel => exact ⟨q + 1, by omega, by go_num, HS, hB.trans (below_drews _ _ _)⟩
        case measure => simp [intOf]; omega
      · have HN : Hid (trimN zs len = q + 2) := by
          show _ = _
          rw [hinv.out, trimN, if_neg hs]
        generalize hx : zs.getD (q + 1) 0 = x at *
        generalize hy : zs.getD q 0 = y at *
        have hxy : (x == y) = false := by simpa using hs
        clear hx hy
        go_wp2
        go_quiet (fail)
        go_wp2_with (at_make; refine wpList_make_full _ rfl _ _ 22 rfl w.heap.size 3 ii (.int .i64 0) 1 Try.underlying22 hi hi0 hi1 _ _ _ _ (q + 2) rfl rfl (by go_num) (by go_num) (by rw [hi2]; omega) (by unfold maxLen; omega) (by simpa using hB.size) ?_; intro w2 hown2 hg2; rw [drewN_size] at hown2)
        have hB2 := (hB.trans (below_drews w.heap.size wr nq)).grown hg2 (by simpa using hB.size) (fun k h => by cases h)
        obtain ⟨hl1, hl2⟩ := HFIN.out (q + 2) HN.out (by omega)
        obtain ⟨w3, hrun, hown3, hB3⟩ := copy_runZ w w2 w.heap.size w.heap.size _ (q + 2) (zs.take (q + 2)) _ ⟨b, off, none⟩ len cap hown2 (by omega) (by rw [List.length_take, HL.out]; omega) (cells_arg ((h.below (Nat.le_refl _) hB2).cut (n := q + 2) (by omega))) hB2 (by simpa using hB.size)
        rw [hrun]
        go_wp2
        go_ret
        rw [hl1, hl2]
        exact ⟨_, rfl, hown3, hB3⟩
    · have HN : Hid (trimN zs len = n) := by
        show _ = _
        rw [hinv.out]
        rcases (show n = 0 ∨ n = 1 by omega) with rfl | rfl <;> rfl
      have hd : decide ((2 : Int) ≤ (n : Int)) = false := decide_eq_false (by omega)
      go_wp2
      go_quiet (fail)
      go_wp2_with (at_make; refine wpList_make_full _ rfl _ _ 22 rfl w.heap.size 3 ii (.int .i64 0) 1 Try.underlying22 hi hi0 hi1 _ _ _ _ (n) rfl rfl (by go_num) (by go_num) (by rw [hi2]; omega) (by unfold maxLen; omega) (by simpa using hB.size) ?_; intro w2 hown2 hg2; rw [drewN_size] at hown2)
      have hB2 := (hB.trans (below_drews w.heap.size wr nq)).grown hg2 (by simpa using hB.size) (fun k h => by cases h)
      obtain ⟨hl1, hl2⟩ := HFIN.out (n) HN.out (by omega)
      obtain ⟨w3, hrun, hown3, hB3⟩ := copy_runZ w w2 w.heap.size w.heap.size _ (n) (zs.take (n)) _ ⟨b, off, none⟩ len cap hown2 (by omega) (by rw [List.length_take, HL.out]; omega) (cells_arg ((h.below (Nat.le_refl _) hB2).cut (n := n) (by omega))) hB2 (by simpa using hB.size)
      rw [hrun]
      go_wp2
      go_ret
      rw [hl1, hl2]
      exact ⟨_, rfl, hown3, hB3⟩
theorem trim_nil (w : World) :
    Calls Try.prog 25 #[.slice none 0 0] w fun e w' => ∃ g, e = .returned (.slice (some ⟨g, 0, none⟩) 0 0) ∧ w'.ownsRow w.heap.size 3 1 (.slice (some ⟨g, 0, none⟩) 0 0) 0 (cellsZ []) ∧ Below w.heap.size w w' := by
  obtain ⟨ii, hi, hi0, hi1, hi2⟩ := info_parts Try.infoInt
  have hd : decide ((2 : Int) ≤ 0) = false := rfl
  go_enter Try.func25, Try.ntmps25
  go_wp2
  go_loopw [3] (fun i wr => i = .int .i64 0 ∧ Below w.heap.size w wr) (fun i _ => (intOf i).toNat)
  case atStart => exact ⟨rfl, Below.refl _ _⟩
  case round =>
    obtain ⟨rfl, hB⟩ := hrel
    go_wp2
    go_quiet (fail)
    go_wp2_with (at_make; refine wpList_make_full _ rfl _ _ 22 rfl w.heap.size 3 ii (.int .i64 0) 1 Try.underlying22 hi hi0 hi1 _ _ _ _ 0 rfl rfl (by go_num) (by go_num) (by rw [hi2]; omega) (by unfold maxLen; omega) (by simpa using hB.size) ?_; intro w2 hown2 hg2; rw [drewN_size, made_zeros] at hown2)
    have hB2 := (hB.trans (below_drews w.heap.size wr nq)).grown hg2 (by simpa using hB.size) (fun k h => by cases h)
    rw [run_copy_nil (P := Try.prog) w2 22 22 3 3 ⟨wr.heap.size, 0, none⟩ 0 0 Try.underlying22 (by kernel_rfl)]
    go_wp2
    go_ret
    exact ⟨_, rfl, hown2, hB2⟩
theorem trim_own (base : Nat) (ao : Option Addr) (n c : Nat) (zs : List Int) (w : World) (h : w.ownsRow base 3 1 (.slice ao n c) n (cellsZ zs)) (hm : n * 8 ≤ 140737488351232) :
    Calls Try.prog 25 #[.slice ao n c] w fun e w' => ∃ g, e = .returned (.slice (some ⟨g, 0, none⟩) (trim zs).length (trim zs).length) ∧ w'.ownsRow w.heap.size 3 1 (.slice (some ⟨g, 0, none⟩) (trim zs).length (trim zs).length) (trim zs).length (cellsZ (trim zs)) ∧ Below w.heap.size w w' := by
  obtain ⟨ro, cr, hv, hR⟩ := rdz_of_owns h
  obtain ⟨rfl, _, rfl⟩ := Value.slice.inj hv
  rcases h.2 with ⟨e, h0⟩ | ⟨g, cap, cur, e, _⟩
  · obtain ⟨rfl, rfl, rfl⟩ := Value.slice.inj e
    have hz : zs = [] := List.length_eq_zero_iff.1 hR.eqlen
    subst hz
    exact trim_nil w
  · obtain ⟨rfl, _, rfl⟩ := Value.slice.inj e
    exact trim_some g 0 n c zs w hR hm
set_option maxHeartbeats 1000000 in
theorem rtrim_some (b off : Nat) (len cap : Nat) (zs : List Int) (w : World) (h : RdZ w (some ⟨b, off, none⟩) len cap zs) (hm : len * 8 ≤ 140737488351232) :
    Calls Try.prog 26 #[.slice (some ⟨b, off, none⟩) len cap] w fun e w' => ∃ a c, e = .returned (.slice a (trim zs).length c) ∧ RdZ w' a (trim zs).length c (trim zs) ∧ Below w.heap.size w w' := by
  have hcap := h.lecap
  have hmax := h.lemax
  have HL : Hid (zs.length = len) := h.eqlen
  go_enter Try.func26, Try.ntmps26
  go_wp2
  go_loopw [3] (fun i wr => ∃ n : Nat, n ≤ len ∧ i = .int .i64 n ∧ Hid (trimN zs len = trimN zs n) ∧ Below w.heap.size w wr) (fun i _ => (intOf i).toNat)
  case atStart => exact ⟨len, Nat.le_refl _, rfl, rfl, Below.refl _ _⟩
  case round =>
    obtain ⟨n, hn, rfl, hinv, hB⟩ := hrel
    have hfin : ∀ k, trimN zs len = k → k ≤ len → (trim zs).length = k ∧ trim zs = zs.take k := fun k hk hk' => by
      refine ⟨by rw [trim_length, HL.out, hk], by unfold trim; rw [HL.out, hk]⟩
    have HFIN : Hid _ := hfin
    clear hfin
    by_cases h2 : 2 ≤ n
    · obtain ⟨q, rfl⟩ : ∃ q, n = q + 2 := ⟨n - 2, by omega⟩
      obtain ⟨b1, off1, e1, hc1⟩ := (h.below (Nat.le_refl _) hB).cell (q + 1) (by omega)
      obtain ⟨b2, off2, e2, hc2⟩ := (h.below (Nat.le_refl _) hB).cell q (by omega)
      obtain ⟨rfl, rfl⟩ : b = b1 ∧ off = off1 := by simpa using e1
      obtain ⟨rfl, rfl⟩ : b = b2 ∧ off = off2 := by simpa using e2
      have i1 : ((q : Int) + 2 - 1).toNat = q + 1 := by omega
      have i2 : ((q : Int) + 2 - 2).toNat = q := by omega
      clear e1 e2
      have hd : decide ((2 : Int) ≤ (q : Int) + 2) = true := decide_eq_true (by omega)
      by_cases hs : zs.getD (q + 1) 0 = zs.getD q 0
      · have HS : Hid (trimN zs len = trimN zs (q + 1)) := by
          show _ = _
          rw [hinv.out, trimN, if_pos hs]
        rw [hs] at hc1
        generalize hx : zs.getD q 0 = x at *
        clear hs hx
        go_wp2
        go_quiet (fail)
        go_wp2
        go_roundw
        case rel => exact ⟨q + 1, by omega, by go_num, HS, hB.trans (below_drews _ _ _)⟩
        case measure => simp [intOf]; omega
      · have HN : Hid (trimN zs len = q + 2) := by
          show _ = _
          rw [hinv.out, trimN, if_neg hs]
        generalize hx : zs.getD (q + 1) 0 = x at *
        generalize hy : zs.getD q 0 = y at *
        have hxy : (x == y) = false := by simpa using hs
        clear hx hy
        go_wp2
        go_quiet (fail)
        have hBn := hB.trans (below_drews w.heap.size wr nq)
        have hRn := (h.below (Nat.le_refl _) hBn).cut (n := q + 2) hn
        obtain ⟨hl1, hl2⟩ := HFIN.out (q + 2) HN.out (by omega)
        go_wp2_with (at_builtin; refine wp_copyZ w (wr.drewN nq) rfl (.tmp 23) (.tmp 26) rfl hBn rfl (some ⟨b, off, none⟩) (q + 2) cap (zs.take (q + 2)) rfl hRn (by omega) ?_; intro a3 c3 w3 hR3 hB3 hO3)
        go_ret
        rw [hl1, hl2]
        exact ⟨_, _, rfl, hR3, hBn.trans (hB3.mono hBn.size)⟩
    · have HN : Hid (trimN zs len = n) := by
        show _ = _
        rw [hinv.out]
        rcases (show n = 0 ∨ n = 1 by omega) with rfl | rfl <;> rfl
      have hd : decide ((2 : Int) ≤ (n : Int)) = false := decide_eq_false (by omega)
      go_wp2
      go_quiet (fail)
      have hBn := hB.trans (below_drews w.heap.size wr nq)
      have hRn := (h.below (Nat.le_refl _) hBn).cut (n := n) hn
      obtain ⟨hl1, hl2⟩ := HFIN.out n HN.out (by omega)
      go_wp2_with (at_builtin; refine wp_copyZ w (wr.drewN nq) rfl (.tmp 23) (.tmp 26) rfl hBn rfl (some ⟨b, off, none⟩) n cap (zs.take n) rfl hRn (by omega) ?_; intro a3 c3 w3 hR3 hB3 hO3)
      go_ret
      rw [hl1, hl2]
      exact ⟨_, _, rfl, hR3, hBn.trans (hB3.mono hBn.size)⟩
theorem rtrim_zero (ao : Option Addr) (cap : Nat) (w : World) (h : RdZ w ao 0 cap []) :
    Calls Try.prog 26 #[.slice ao 0 cap] w fun e w' => ∃ a c, e = .returned (.slice a 0 c) ∧ RdZ w' a 0 c [] ∧ Below w.heap.size w w' := by
  have hd : decide ((2 : Int) ≤ 0) = false := rfl
  have hmax := h.lemax
  rcases ao with _ | ad
  · obtain rfl : cap = 0 := h.isnil rfl
    go_enter Try.func26, Try.ntmps26
    go_wp2
    go_loopw [3] (fun i wr => i = .int .i64 0 ∧ Below w.heap.size w wr) (fun i _ => (intOf i).toNat)
    case atStart => exact ⟨rfl, Below.refl _ _⟩
    case round =>
      obtain ⟨rfl, hB⟩ := hrel
      go_wp2
      go_quiet (fail)
      have hBn := hB.trans (below_drews w.heap.size wr nq)
      have hRn := h.below (Nat.le_refl _) hBn
      go_wp2_with (at_builtin; refine wp_copyZ w (wr.drewN nq) rfl (.tmp 23) (.tmp 26) rfl hBn rfl none 0 0 [] rfl hRn (by omega) ?_; intro a3 c3 w3 hR3 hB3 hO3)
      go_ret
      exact ⟨_, _, rfl, hR3, hBn.trans (hB3.mono hBn.size)⟩
  · go_enter Try.func26, Try.ntmps26
    go_wp2
    go_loopw [3] (fun i wr => i = .int .i64 0 ∧ Below w.heap.size w wr) (fun i _ => (intOf i).toNat)
    case atStart => exact ⟨rfl, Below.refl _ _⟩
    case round =>
      obtain ⟨rfl, hB⟩ := hrel
      go_wp2
      go_quiet (fail)
      have hBn := hB.trans (below_drews w.heap.size wr nq)
      have hRn := h.below (Nat.le_refl _) hBn
      go_wp2_with (at_builtin; refine wp_copyZ w (wr.drewN nq) rfl (.tmp 23) (.tmp 26) rfl hBn rfl (some ad) 0 cap [] rfl hRn (by omega) ?_; intro a3 c3 w3 hR3 hB3 hO3)
      go_ret
      exact ⟨_, _, rfl, hR3, hBn.trans (hB3.mono hBn.size)⟩
theorem rtrim_at (ao : Option Addr) (len cap : Nat) (zs : List Int) (w : World) (h : RdZ w ao len cap zs) (hm : len * 8 ≤ 140737488351232) :
    Calls Try.prog 26 #[.slice ao len cap] w fun e w' => ∃ a c, e = .returned (.slice a (trim zs).length c) ∧ RdZ w' a (trim zs).length c (trim zs) ∧ Below w.heap.size w w' := by
  by_cases h0 : 0 < len
  · obtain ⟨b, off, rfl, _⟩ := h.cell 0 h0
    exact rtrim_some b off len cap zs w h hm
  · obtain rfl : len = 0 := by omega
    have hz : zs = [] := List.length_eq_zero_iff.1 h.eqlen
    subst hz
    exact rtrim_zero ao cap w h
end Go.Proofs.Ytkanjgphmafjbaa.Wo
