/- Products in digits of 16 bits: plain mathematics, no Go. -/
import Derived.Test.YtiapkblebbcfbaaGreatSums
namespace Go.Proofs.YtiapkblebbcfbaaGreat.Wd

theorem dg_set_same {O : List Nat} {p d : Nat} (h : p < O.length) : dg (O.set p d) p = d := by
  unfold dg; rw [List.getD_eq_getElem?_getD, List.getElem?_set_self h]; rfl
theorem dg_set_other {O : List Nat} {p d i : Nat} (h : p ≠ i) : dg (O.set p d) i = dg O i := by
  unfold dg; rw [List.getD_eq_getElem?_getD, List.getD_eq_getElem?_getD, List.getElem?_set_ne h]
theorem V_set {O : List Nat} {p d : Nat} (h : p < O.length) (k : Nat) (hk : p < k) : V (dg (O.set p d)) k + 65536 ^ p * dg O p = V (dg O) k + 65536 ^ p * d := by
  induction k with
  | zero => omega
  | succ k ih =>
    simp only [V]
    by_cases e : p = k
    · subst e
      rw [dg_set_same h, V_congr (f := dg (O.set p d)) (g := dg O) p (fun i hi => dg_set_other (by omega))]
      omega
    · have h1 := ih (by omega)
      rw [dg_set_other e]
      omega
theorem val_set {O : List Nat} {p d : Nat} (h : p < O.length) : val (O.set p d) + 65536 ^ p * dg O p = val O + 65536 ^ p * d := by
  unfold val
  rw [List.length_set]
  exact V_set h _ h
theorem small_set {O : List Nat} {p d : Nat} (h : Small O) (hd : d < 65536) : Small (O.set p d) := by
  intro x hx
  rcases List.mem_or_eq_of_mem_set hx with hx | rfl
  · exact h x hx
  · exact hd

/-- a step of the inner loop -/
theorem times_step {O : List Nat} {b : Nat → Nat} {i j cy a X s : Nat} (hp : i + j < O.length) (hinv : val O + 65536 ^ (i + j) * cy = X + 65536 ^ i * (a * V b j)) (hs : s = dg O (i + j) + a * b j + cy) :
    val (O.set (i + j) (s % 65536)) + 65536 ^ (i + (j + 1)) * (s / 65536) = X + 65536 ^ i * (a * V b (j + 1)) := by
  have h1 := val_set (d := s % 65536) hp
  have h2 : 65536 ^ (i + (j + 1)) * (s / 65536) = 65536 ^ (i + j) * (65536 * (s / 65536)) := by
    rw [← Nat.add_assoc, Nat.pow_succ, Nat.mul_assoc]
  have h3 : 65536 ^ (i + j) * (s % 65536) + 65536 ^ (i + j) * (65536 * (s / 65536)) = 65536 ^ (i + j) * s := by rw [← Nat.mul_add, Nat.mod_add_div]
  have h4 : 65536 ^ (i + j) * s = 65536 ^ (i + j) * dg O (i + j) + 65536 ^ (i + j) * (a * b j) + 65536 ^ (i + j) * cy := by rw [hs, Nat.mul_add, Nat.mul_add]
  have h5 : 65536 ^ i * (a * V b (j + 1)) = 65536 ^ i * (a * V b j) + 65536 ^ (i + j) * (a * b j) := by
    simp only [V]
    rw [Nat.mul_add, Nat.mul_add, Nat.pow_add]
    congr 1
    rw [Nat.mul_assoc, Nat.mul_left_comm a]
  omega
theorem times_small {x a b cy : Nat} (hx : x < 65536) (ha : a < 65536) (hb : b < 65536) (hc : cy < 65536) : x + a * b + cy < 4294967296 ∧ (x + a * b + cy) / 65536 < 65536 ∧ a * b ≤ 4294836225 := by
  have h : a * b ≤ 65535 * 65535 := Nat.mul_le_mul (by omega) (by omega)
  omega
/-- at the inner loop's end, and that it comes to one -/
theorem times_high {O B : List Nat} {A : Nat → Nat} {i j cy : Nat} (hA : ∀ k, A k < 65536) (hB : Small B) (hj : B.length ≤ j) (hinv : val O + 65536 ^ (i + j) * cy = V A i * val B + 65536 ^ i * (A i * V (dg B) j)) :
    val O + 65536 ^ (i + j) * cy = V A (i + 1) * val B ∧ (0 < cy → j ≤ B.length) := by
  rw [val_at hj] at hinv
  have h1 : V A (i + 1) * val B = V A i * val B + 65536 ^ i * (A i * val B) := by
    simp only [V]; rw [Nat.add_mul, Nat.mul_assoc]
  refine ⟨by omega, fun hc => ?_⟩
  have h2 : V A (i + 1) * val B < 65536 ^ (i + 1) * 65536 ^ B.length := by
    have g1 := V_lt hA (i + 1)
    have g2 := val_lt hB
    exact Nat.mul_lt_mul_of_lt_of_le g1 (Nat.le_of_lt g2) (Nat.lt_of_le_of_lt (Nat.zero_le _) g2)
  rw [← Nat.pow_add] at h2
  have h3 : 65536 ^ (i + j) * 1 ≤ 65536 ^ (i + j) * cy := Nat.mul_le_mul_left _ hc
  have h4 : 65536 ^ (i + j) < 65536 ^ (i + 1 + B.length) := by omega
  have := (Nat.pow_lt_pow_iff_right (show 1 < 65536 by omega)).1 h4
  omega
theorem zeros_val (n : Nat) : val (List.replicate n 0) = 0 := by
  have h : ∀ k, V (dg (List.replicate n 0)) k = 0 := by
    intro k
    induction k with
    | zero => rfl
    | succ k ih =>
      simp only [V]
      rw [ih]
      have : dg (List.replicate n 0) k = 0 := by
        unfold dg
        by_cases h : k < n
        · simp [List.getD_eq_getElem?_getD, h]
        · simp [List.getD_eq_getElem?_getD, h]
      rw [this]; omega
  exact h _
end Go.Proofs.YtiapkblebbcfbaaGreat.Wd
/- The document's wide numbers: products. -/
namespace Go.Proofs.YtiapkblebbcfbaaGreat.Wd
open Go.RowKit
set_option linter.unusedVariables false

theorem made_zeros (n : Nat) : (madeCells #[Value.int .u64 0] n).toList = cellsU (List.replicate n 0) := by
  rw [toList_madeCells_one]; simp [cellsU]
theorem owns_cell {w : World} {base g n cap : Nat} {O : List Nat} (h : w.ownsRow base 122 1 (.slice (some ⟨g, 0, none⟩) n cap) n (cellsU O)) (p : Nat) (hp : p < n) : w.cell? ⟨g, p, none⟩ = some (.int .u64 (dg O p)) := by
  have hl := h.1
  simp only [List.length_map, Nat.mul_one] at hl
  rw [h.cellAt p (by omega), List.getElem?_map, List.getElem?_eq_getElem (by omega)]
  simp [dg, List.getD_eq_getElem?_getD, List.getElem?_eq_getElem (show p < O.length by omega)]
theorem cells_set (O : List Nat) (p d : Nat) : (cellsU O).set p (.int .u64 (d : Int)) = cellsU (O.set p d) := by
  unfold cellsU; rw [List.map_set]

set_option maxHeartbeats 4000000 in
theorem times_at (na nb : Bool) (x : Int) (ao bo : Option Addr) (la ca lb cb : Nat) (A B : List Nat) (w : World) (hA : Dg w ao la ca A) (hB : Dg w bo lb cb B) (ha : la ≤ 64) (hb : lb ≤ 64)
    (hx : Hid (x = if (na != nb) then -((val A * val B : Nat) : Int) else ((val A * val B : Nat) : Int))) (hbig : Hid (val A * val B < 65536 ^ 64)) :
    Calls Tryz.prog 54 #[.agg #[.bool na, .slice ao la ca], .agg #[.bool nb, .slice bo lb cb]] w fun e w' => ∃ b ro lr cr, e = .returned (.agg #[.bool b, .slice ro lr cr]) ∧ Hid (b = decide (x < 0)) ∧ Mg w' ro lr cr x.natAbs ∧ Below w.heap.size w w' := by
  obtain ⟨i0, hi, hz0, hz1, hz2⟩ := info_parts Tryz.info122
  have hW0 := box3_below w na nb ao bo la ca lb cb
  have hWW := Below.refl (w.heap.size + 3) (box3 w na nb ao bo la ca lb cb)
  have hWs := box3_size w na nb ao bo la ca lb cb
  have hcA := hA.lecap
  have hmA := hA.lemax
  have hcB := hB.lecap
  have hmB := hB.lemax
  go_enter Tryz.func54, Tryz.ntmps54
  go_wp2_with (at_make; refine wpList_make_full _ rfl _ _ 93 rfl (w.heap.size + 3) 122 i0 (.int .u64 0) 1 Tryz.underlying93 hi hz0 hz1 _ _ _ _ (la + lb + 1) rfl rfl (by omega) (by omega) ?b2 ?b3 (Nat.le_of_eq hWs.symm) ?_)
  case b2 => rw [hz2]; omega
  case b3 => unfold maxLen; omega
  intro w0 hown0 hgrow0
  rw [made_zeros] at hown0
  have hN0 := hWW.grown hgrow0 (Nat.le_of_eq hWs.symm) (fun k h => by cases h)
  clear hgrow0
  go_wp2
  go_loopw [6] (fun i wr => ∃ (k : Nat) (O : List Nat), k ≤ la ∧ i = .int .i64 k ∧ O.length = la + lb + 1 ∧ Small O ∧ wr.ownsRow (w.heap.size + 3) 122 1 (.slice (some ⟨w.heap.size + 3, 0, none⟩) (la + lb + 1) (la + lb + 1)) (la + lb + 1) (cellsU O) ∧ Hid (val O = V (dg A) k * val B) ∧ Below (w.heap.size + 3) (box3 w na nb ao bo la ca lb cb) wr)
    (fun i _ => la - (intOf i).toNat)
  case atStart => exact ⟨0, List.replicate (la + lb + 1) 0, Nat.zero_le _, rfl, by simp, (fun d hd => by rw [(List.mem_replicate.1 hd).2]; omega), hown0, (by show val _ = _; rw [zeros_val]; simp [V]), hN0⟩
  case round =>
    obtain ⟨k, O, hk, rfl, hOl, hOs, hown, hinv, hnx⟩ := hrel
    obtain ⟨c0, c1, c2, c3⟩ := boxes (hnx.mono (by omega))
    by_cases hlt : k < la
    · go_wp2
      go_loopw [7, 8] (fun c j wr => ∃ (cy m : Nat) (O : List Nat), c = .int .u64 cy ∧ j = .int .i64 m ∧ cy < 65536 ∧ m ≤ lb + 1 ∧ O.length = la + lb + 1 ∧ Small O ∧ wr.ownsRow (w.heap.size + 3) 122 1 (.slice (some ⟨w.heap.size + 3, 0, none⟩) (la + lb + 1) (la + lb + 1)) (la + lb + 1) (cellsU O) ∧ Hid (val O + 65536 ^ (k + m) * cy = V (dg A) k * val B + 65536 ^ k * (dg A k * V (dg B) m)) ∧ Below (w.heap.size + 3) (box3 w na nb ao bo la ca lb cb) wr)
        (fun _ j _ => lb + 1 - (intOf j).toNat)
      case atStart => exact ⟨0, 0, O, rfl, rfl, by omega, by omega, hOl, hOs, hown, (by show _ = _; have := hinv.out; simp [V]; exact this), hnx⟩
      case round =>
        clear hown hinv hnx c0 c1 c2 c3 hOl hOs
        obtain ⟨cy, m, O, rfl, rfl, hcy, hm, hOl, hOs, hown, hinv, hnx⟩ := hrel
        obtain ⟨c0, c1, c2, c3⟩ := boxes (hnx.mono (by omega))
        have hsz : w.heap.size + 3 < wr.heap.size := by
          have := (hown.lt (w.heap.size + 3) rfl).2
          exact this
        have hbw : Below w.heap.size w wr := hW0.trans (hnx.mono (by omega))
        by_cases hgo : m < lb ∨ (¬ m < lb ∧ 0 < cy)
        · have hidx : k + m < la + lb + 1 := by
            by_cases h : m < lb
            · omega
            · have := (times_high (fun i => dg_lt hA.small i) hB.small (by rw [hB.eqlen]; omega) hinv.out).2 (by omega)
              rw [hB.eqlen] at this
              omega
          have hm' : m ≤ lb := by
            by_cases h : m < lb
            · omega
            · have := (times_high (fun i => dg_lt hA.small i) hB.small (by rw [hB.eqlen]; omega) hinv.out).2 (by omega)
              rw [hB.eqlen] at this
              exact this
          obtain ⟨ab, aoff, rfl, hca⟩ := hA.cell k hlt
          have hca' : wr.cell? ⟨ab, aoff + k, none⟩ = some (.int .u64 (dg A k)) := by
            rw [hbw.cell (World.block_lt_of_cell? _ _ hca)]; exact hca
          have hco := owns_cell hown (k + m) hidx
          have hfo := hown.frozenAt (k + m)
          have hlA := dg_lt hA.small k
          have hlB := dg_lt hB.small m
          have hlO := dg_lt hOs (k + m)
          have hts := times_small hlO hlA hlB hcy
          obtain ⟨p, hp⟩ : ∃ p, p = dg A k * dg B m := ⟨_, rfl⟩
          obtain ⟨S, hS⟩ : ∃ S, S = dg O (k + m) + dg A k * dg B m + cy := ⟨_, rfl⟩
          have hpc : ((dg A k : Int) * (dg B m : Int)) = (p : Int) := by rw [hp, Int.natCast_mul]
          have hS1 : IntKind.u64.wrap (IntKind.u64.wrap (↑(dg O (k + m)) + IntKind.u64.wrap (↑(dg A k) * ↑(dg B m))) + ↑cy) = (S : Int) := by
            rw [hpc, IntKind.wrap_u64, IntKind.wrap_u64, IntKind.wrap_u64]
            rw [← hp] at hts hS
            omega
          have hS3 : S < 4294967296 := by rw [hS]; exact hts.1
          have hS5 : S / 65536 < 65536 := by rw [hS]; exact hts.2.1
          have hS2 : bits .and .u64 (S : Int) 65535 = ((S % 65536 : Nat) : Int) := by rw [and_low _ (by omega) (by omega)]; omega
          have hst : Hid (val (O.set (k + m) (S % 65536)) + 65536 ^ (k + (m + 1)) * (S / 65536) = V (dg A) k * val B + 65536 ^ k * (dg A k * V (dg B) (m + 1))) := times_step (by rw [hOl]; exact hidx) hinv.out hS
          have hkeep : Hid (∀ w', Below wr.heap.size wr w' → w'.cell? ⟨w.heap.size, 0, none⟩ = some (.bool na) ∧ w'.cell? ⟨w.heap.size, 1, none⟩ = some (.slice (some ⟨ab, aoff, none⟩) la ca) ∧ w'.cell? ⟨w.heap.size + 1, 0, none⟩ = some (.bool nb) ∧ w'.cell? ⟨w.heap.size + 1, 1, none⟩ = some (.slice bo lb cb) ∧ w'.cell? ⟨w.heap.size + 3, k + m, none⟩ = some (.int .u64 (dg O (k + m))) ∧ w'.cell? ⟨ab, aoff + k, none⟩ = some (.int .u64 (dg A k))) := fun w' h =>
            ⟨(h.cell (World.block_lt_of_cell? _ _ c0)).trans c0, (h.cell (World.block_lt_of_cell? _ _ c1)).trans c1, (h.cell (World.block_lt_of_cell? _ _ c2)).trans c2, (h.cell (World.block_lt_of_cell? _ _ c3)).trans c3, (h.cell (World.block_lt_of_cell? _ _ hco)).trans hco, (h.cell (World.block_lt_of_cell? _ _ hca')).trans hca'⟩
          have hi1 : IntKind.i64.wrap ((k : Int) + (m : Int)) = (k : Int) + (m : Int) := by rw [IntKind.wrap_i64]; omega
          have hi2 : (0 : Int) ≤ (k : Int) + (m : Int) := by omega
          have hi3 : (k : Int) + (m : Int) < (la : Int) + (lb : Int) + 1 := by omega
          have hi4 : ((k : Int) + (m : Int)).toNat = k + m := by omega
          have hi5 : (k : Int) < (la : Int) := by omega
          have hi6 : (0 : Int) ≤ (k : Int) := by omega
          have b1 := (Below.refl wr.heap.size wr).drew
          have b2 := fun o => ((Below.refl wr.heap.size wr).alloc (Nat.le_refl _) o).drew
          clear hts hp hS hpc hca
          have hsm : ((S : Int) % 65536) = ((S % 65536 : Nat) : Int) := by omega
          have hown2 := (hown.stored (k + m) (.int .u64 ((S : Int) % 65536))).1
          rw [hsm, cells_set, ← hsm] at hown2
          have HO : Hid ((wr.setCell ⟨w.heap.size + 3, k + m, none⟩ (.int .u64 ((S : Int) % 65536))).ownsRow (w.heap.size + 3) 122 1 (.slice (some ⟨w.heap.size + 3, 0, none⟩) (la + lb + 1) (la + lb + 1)) (la + lb + 1) (cellsU (O.set (k + m) (S % 65536)))) := hown2
          have HN : Hid (∀ o, Below (w.heap.size + 3) (box3 w na nb (some ⟨ab, aoff, none⟩) bo la ca lb cb) ((wr.setCell ⟨w.heap.size + 3, k + m, none⟩ (.int .u64 ((S : Int) % 65536))).alloc o).drew) := fun o => ((hnx.setCell (p := ⟨w.heap.size + 3, k + m, none⟩) (Nat.le_refl _) _).alloc (by simp; omega) o).drew
          clear hsm hown2
          rcases hgo with hgo | ⟨hgo, hgo2⟩
          all_goals
            go_wp2
            go_region_held3 (fun w' => w'.cell? ⟨w.heap.size, 0, none⟩ = some (.bool na) ∧ w'.cell? ⟨w.heap.size, 1, none⟩ = some (.slice (some ⟨ab, aoff, none⟩) la ca) ∧ w'.cell? ⟨w.heap.size + 1, 0, none⟩ = some (.bool nb) ∧ w'.cell? ⟨w.heap.size + 1, 1, none⟩ = some (.slice bo lb cb) ∧ w'.cell? ⟨w.heap.size + 3, k + m, none⟩ = some (.int .u64 (dg O (k + m))) ∧ w'.cell? ⟨ab, aoff + k, none⟩ = some (.int .u64 (dg A k))) (first | exact hkeep.out _ b1 | exact hkeep.out _ (b2 _))
              (first
                | (go_at_call 80; refine (digit_at nb bo lb cb B m _ (hB.below (Nat.le_refl _) (hbw.drew)) (by omega)).mono ?_; rintro e w' ⟨rfl, rfl⟩))
            go_wp2
            go_roundw
            case rel =>
              go_light
              exact ⟨S / 65536, m + 1, O.set (k + m) (S % 65536), by go_num, by go_num, hS5, by omega, by rw [List.length_set]; exact hOl, small_set hOs (by omega), (HO.out.alloc _).drew, hst.out, HN.out _⟩
            case measure => simp [intOf]; omega
        · have hcy0 : cy = 0 := by omega
          subst hcy0
          have hv : Hid (val O = V (dg A) (k + 1) * val B) := by
            have h := (times_high (fun i => dg_lt hA.small i) hB.small (by rw [hB.eqlen]; omega) hinv.out).1
            show val O = _
            omega
          have hge : ¬ m < lb := by omega
          clear hinv hgo
          go_wp2
          go_roundw
          case rel => exact ⟨k + 1, O, by omega, by go_num, hOl, hOs, hown, hv.out, hnx⟩
          case measure => simp [intOf]; omega
    · obtain rfl : k = la := by omega
      have hv : Hid (val O = val A * val B) := by
        have h := hinv.out
        rw [val_at (by rw [hA.eqlen]; exact Nat.le_refl _)] at h
        exact h
      obtain ⟨ro, cr, hve, hR⟩ := dg_of_owns hown hOs (by omega)
      simp only [Value.slice.injEq, true_and] at hve
      obtain ⟨rfl, rfl⟩ := hve
      have hw : Below w.heap.size w wr := hW0.trans (hnx.mono (by omega))
      clear hinv
      go_wp2_with (go_at_call 77; refine (trimmed_is (na != nb) _ _ _ O _ hR x (by rw [hv.out]; exact hx.out) (by rw [hv.out]; exact hbig.out)).mono ?_; rintro e w2 ⟨ro2, lr2, cr2, rfl, hM2, hB2⟩; have hN2 := hnx.trans (hB2.mono (by have := hnx.size; omega)); have hw2 := hw.trans (hB2.mono hw.size); obtain ⟨k0, k1, kf0, kf1⟩ := place hN2)
      exact bodyPost_ret (v := .agg #[.bool (decide (x < 0)), .slice ro2 lr2 cr2]) (by simp [results, Tryz.results54, go_sem, k0, k1]) rfl ⟨_, ro2, lr2, cr2, rfl, rfl, hM2.stored k0 k1 _, two_below hw2 (by omega) _ _⟩
end Go.Proofs.YtiapkblebbcfbaaGreat.Wd
/- The document's products, and ChkProducts. -/
namespace Go.Proofs.YtiapkblebbcfbaaGreat.Wd
open Go.RowKit
set_option linter.unusedVariables false

theorem times_b (x y z : Int) (na nb : Bool) (ao bo : Option Addr) (la ca lb cb : Nat) (w : World) (Hna : Hid (na = decide (x < 0))) (Hnb : Hid (nb = decide (y < 0))) (hX : Mg w ao la ca x.natAbs) (hY : Mg w bo lb cb y.natAbs) (hz : z = x * y) (hbig : z.natAbs < 65536 ^ 64) :
    Calls Tryz.prog 54 #[.agg #[.bool na, .slice ao la ca], .agg #[.bool nb, .slice bo lb cb]] w fun e w' => ∃ b ro lr cr, e = .returned (.agg #[.bool b, .slice ro lr cr]) ∧ Hid (b = decide (z < 0)) ∧ Mg w' ro lr cr z.natAbs ∧ Below w.heap.size w w' := by
  obtain ⟨A, hA, nA, vA, lA⟩ := hX
  obtain ⟨B, hB, nB, vB, lB⟩ := hY
  have hv : val A * val B = z.natAbs := by rw [hz, Int.natAbs_mul, vA, vB]
  refine times_at na nb z ao bo la ca lb cb A B w hA hB lA lB ?_ ?_
  · show z = _
    have h1 := Hna.out
    have h2 := Hnb.out
    rw [vA, vB]
    by_cases hx : x < 0
    · by_cases hy : y < 0
      · have e1 : na = true := by rw [h1]; simpa using hx
        have e2 : nb = true := by rw [h2]; simpa using hy
        rw [e1, e2, if_neg (by simp), hz, Int.natCast_mul, Int.ofNat_natAbs_of_nonpos (by omega), Int.ofNat_natAbs_of_nonpos (by omega), Int.neg_mul_neg]
      · have e1 : na = true := by rw [h1]; simpa using hx
        have e2 : nb = false := by rw [h2]; simpa using hy
        rw [e1, e2, if_pos (by simp), hz, Int.natCast_mul, Int.ofNat_natAbs_of_nonpos (by omega), Int.natAbs_of_nonneg (by omega), Int.neg_mul, Int.neg_neg]
    · by_cases hy : y < 0
      · have e1 : na = false := by rw [h1]; simpa using hx
        have e2 : nb = true := by rw [h2]; simpa using hy
        rw [e1, e2, if_pos (by simp), hz, Int.natCast_mul, Int.natAbs_of_nonneg (by omega), Int.ofNat_natAbs_of_nonpos (by omega), Int.mul_neg, Int.neg_neg]
      · have e1 : na = false := by rw [h1]; simpa using hx
        have e2 : nb = false := by rw [h2]; simpa using hy
        rw [e1, e2, if_neg (by simp), hz, Int.natCast_mul, Int.natAbs_of_nonneg (by omega), Int.natAbs_of_nonneg (by omega)]
  · show _ < _
    rw [hv]; exact hbig

theorem prod_bound (a b : Int) (l0 : -9223372036854775808 ≤ a) (u0 : a ≤ 9223372036854775807) (l1 : -9223372036854775808 ≤ b) (u1 : b ≤ 9223372036854775807) : (a * b).natAbs < 340282366920938463463374607431768211456 := by
  rw [Int.natAbs_mul]
  have : a.natAbs * b.natAbs ≤ 9223372036854775808 * 9223372036854775808 := Nat.mul_le_mul (by omega) (by omega)
  omega

set_option maxHeartbeats 1000000 in
theorem ref_mul (a b : Int) (w : World) (l0 : -9223372036854775808 ≤ a) (u0 : a ≤ 9223372036854775807) (l1 : -9223372036854775808 ≤ b) (u1 : b ≤ 9223372036854775807) :
    Calls Tryz.prog 69 #[.int .i64 a, .int .i64 b] w fun e w' => e = .returned (.tuple #[.int .i64 (nOf (a * b)), .int .i64 (eOf (a * b))]) ∧ Below w.heap.size w w' := by
  have hpb : Hid ((a * b).natAbs < 340282366920938463463374607431768211456) := prod_bound a b l0 u0 l1 u1
  go_enter Tryz.func69, Tryz.ntmps69
  go_wp2_with (first
    | (go_at_call 49; refine (told_is (a * b) b3 ro3 lr3 cr3 _ Hb3 hR3 (big60 _ hpb.out)).mono ?_; rintro e w4 ⟨rfl, hB4⟩; have hw4 := hw3.trans (hB4.mono hw3.size))
    | (go_at_call 54; refine (times_b a b (a * b) b1 b2 ro1 ro2 lr1 cr1 lr2 cr2 _ Hb1 Hb2 (hR1.below (Nat.le_refl _) hB2) hR2 rfl (big64 _ hpb.out)).mono ?_; rintro e w3 ⟨b3, ro3, lr3, cr3, rfl, Hb3, hR3, hB3⟩; have hw3 := hw2.trans (hB3.mono hw2.size))
    | (go_at_call 51; have _t := hB1; refine (of_b _ _ (by omega) (by omega)).mono ?_; rintro e w2 ⟨b2, ro2, lr2, cr2, rfl, Hb2, hR2, hB2⟩; have hw2 := hB1.trans (hB2.mono hB1.size))
    | (go_at_call 51; refine (of_b _ _ (by omega) (by omega)).mono ?_; rintro e w1 ⟨b1, ro1, lr1, cr1, rfl, Hb1, hR1, hB1⟩))
  go_ret2
  exact ⟨rfl, hw4⟩
end Go.Proofs.YtiapkblebbcfbaaGreat.Wd
namespace Go.Proofs.YtiapkblebbcfbaaGreat.Chk
open Go.RowKit
open Go.Proofs.YtiapkblebbcfbaaGreat.Wd (nOf eOf)
set_option linter.unusedVariables false

end Go.Proofs.YtiapkblebbcfbaaGreat.Chk
