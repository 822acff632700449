/- RowBack: the mathematics and the walk. -/
import Derived.Test.YthkabeaecfiinaaRwK
import Derived.Test.YthkabeaecfiinaaRwL
namespace Go.Proofs.Ythkabeaecfiinaa.Ro
open Go.RowKit
set_option linter.unusedVariables false

theorem andNot_fin : ∀ b, b < 64 → ∀ m, m < 64 → b &&& m = b → bits .andNot .i64 ((b : Nat) : Int) ((m : Nat) : Int) = 0 := by decide +kernel
/-- what a cube of a row over k tracks is like -/
theorem Unp.shape {cs : List Cb} {k : Nat} {zs : List Int} (h : Unp cs k zs) (hk : k ≤ 6) (x : Cb) (hx : x ∈ cs) : bits .andNot .i64 x.b x.m = 0 ∧ 0 ≤ x.m ∧ x.m < ((2 ^ k : Nat) : Int) := by
  rw [← h.cubes] at hx
  unfold cb0 at hx
  obtain ⟨c, hc, rfl⟩ := List.mem_map.1 hx
  have ho := cn_ok k zs c hc
  have h1 := ho.m
  have h2 := ho.b
  have hp := (pow_le hk).2
  exact ⟨andNot_fin c.b (by omega) c.m (by omega) ho.i, by show (0 : Int) ≤ (c.m : Int); omega, by show (c.m : Int) < _; omega⟩
theorem take_filter (cs : List Cb) (p : Cb → Bool) (j : Nat) (hj : j < cs.length) : ((cs.take (j + 1)).filter p).length = ((cs.take j).filter p).length + (if p (cs.getD j default) then 1 else 0) := by
  rw [List.take_succ_eq_append_getElem hj, List.filter_append, List.length_append, List.getD_eq_getElem?_getD, List.getElem?_eq_getElem hj, Option.getD_some]
  congr 1
  by_cases h : p cs[j] = true
  · simp [h]
  · simp [h]
theorem back_no (ao : Option Addr) (n c : Nat) (zs : List Int) (w : World) (h : RdZ w ao n c zs) (hm : n * 8 ≤ 140737488351232) (hr : ¬ ∃ k, IsRow zs k) :
    Calls Try.prog 5 #[.slice ao n c] w fun e w' => e = .returned (.bool true) ∧ Below w.heap.size w w' := by
  have HP : Hid (packV zs [] 3) := .inr ⟨hr, rfl, rfl⟩
  have HPk : Hid (∀ ao c w, RdZ w ao n c zs → Calls Try.prog 9 #[.slice ao n c] w fun e w' => ∃ a' c', e = .returned (.tuple #[.slice a' 0 c', .int .i64 3]) ∧ Below w.heap.size w w') := fun ao c w h => by
    refine (pack_any ao n c zs [] 3 w h HP.out).mono ?_
    rintro e w1 ⟨a', c', rfl, hO, hB⟩
    exact ⟨a', c', rfl, hB⟩
  clear hr
  set_option maxRecDepth 100000 in
  go_enter Try.func5, Try.ntmps5
  go_wp2_with (first
    | (go_at_call 11; refine (fixed_at _).mono ?_; rintro e w1 ⟨rfl, hB1⟩; have hA1 := h.below (Nat.le_refl _) hB1)
    | (at_builtin; refine wp_copyZ w1 w1 rfl (.tmp 22) (.tmp 23) rfl (Below.refl _ _) rfl ao n c zs rfl hA1 hm ?_; intro a2 c2' w2 hR2 hB2 hO2; clear hO2; have hW2 := bt2 hB1 hB2)
    | (go_at_call 9; refine (HPk.out _ _ _ hR2).mono ?_; rintro e w3 ⟨a3, c3, rfl, hB3⟩; have hW3 := bt2 hW2 hB3))
  go_ret
  exact ⟨rfl, hW3⟩
theorem max_step {zs : List Int} {j : Nat} {m y : Int} (h1 : ∀ a, a < j → zs.getD a 0 ≤ m) (h2 : m = 0 ∨ ∃ a, a < j ∧ zs.getD a 0 = m) (hy : zs.getD j 0 = y) :
    (∀ a, a < j + 1 → zs.getD a 0 ≤ (if y > m then y else m)) ∧ ((if y > m then y else m) = 0 ∨ ∃ a, a < j + 1 ∧ zs.getD a 0 = (if y > m then y else m)) := by
  by_cases hg : y > m
  · rw [if_pos hg]
    refine ⟨fun a ha => ?_, .inr ⟨j, by omega, hy⟩⟩
    rcases Nat.lt_succ_iff_lt_or_eq.1 ha with ha | rfl
    · have := h1 a ha; omega
    · omega
  · rw [if_neg hg]
    refine ⟨fun a ha => ?_, ?_⟩
    · rcases Nat.lt_succ_iff_lt_or_eq.1 ha with ha | rfl
      · exact h1 a ha
      · omega
    · rcases h2 with h | ⟨a, ha, e⟩
      · exact .inl h
      · exact .inr ⟨a, by omega, e⟩
/-- the greatest number of a row -/
def IsMax (zs : List Int) (m : Int) : Prop := (∀ z ∈ zs, z ≤ m) ∧ ∃ z ∈ zs, z = m
theorem max_end {zs : List Int} {n : Nat} {m : Int} (hl : zs.length = n) (hn : 0 < n) (hp : ∀ z ∈ zs, 0 ≤ z) (h1 : ∀ a, a < n → zs.getD a 0 ≤ m) (h2 : m = 0 ∨ ∃ a, a < n ∧ zs.getD a 0 = m) : IsMax zs m := by
  have hmem : ∀ a, a < n → zs.getD a 0 ∈ zs := fun a ha => by rw [getD_of (by omega)]; exact List.getElem_mem _
  refine ⟨fun z hz => ?_, ?_⟩
  · obtain ⟨i, hi, rfl⟩ := List.getElem_of_mem hz
    have := h1 i (by omega)
    rwa [getD_of hi] at this
  · rcases h2 with rfl | ⟨a, ha, e⟩
    · have := h1 0 hn
      have h0 := hp _ (hmem 0 hn)
      exact ⟨_, hmem 0 hn, by omega⟩
    · exact ⟨_, hmem a ha, e⟩
set_option maxRecDepth 100000 in
set_option maxHeartbeats 4000000 in
theorem back_yes (ao : Option Addr) (n c K : Nat) (zs : List Int) (w : World) (h : RdZ w ao n c zs) (hr : IsRow zs K) (hz : ∀ z ∈ zs, z ≤ 9223372036854775807) :
    Calls Try.prog 5 #[.slice ao n c] w fun e w' => e = .returned (.bool true) ∧ Below w.heap.size w w' := by
  have HP : Hid (packV zs (cb0 K zs) 0) := .inl ⟨K, hr, rfl, rfl⟩
  obtain ⟨hK, hl, hp⟩ := hr
  have hnl := h.eqlen
  have hcn := h.lecap
  have hcx := h.lemax
  have hpw := pow_le hK
  have hn64 : n ≤ 64 := by omega
  have hn0 : 0 < n := by omega
  have hm : n * 8 ≤ 140737488351232 := by omega
  have HU : Hid (Unp (cb0 K zs) K zs) := ⟨hl, hp, rfl⟩
  have HSH : Hid (∀ x ∈ cb0 K zs, bits .andNot .i64 x.b x.m = 0 ∧ 0 ≤ x.m ∧ x.m < (n : Int)) := fun x hx => by
    have := HU.out.shape hK x hx
    rw [← hl, hnl] at this; exact this
  have HRI : Hid (∀ i j, i < j → j < (cb0 K zs).length → ((cb0 K zs).getD i default).b < ((cb0 K zs).getD j default).b) := fun i j a b => HU.out.rise i j a b
  have HHI : Hid (∀ l : Nat, l < n → ((cb0 K zs).filter (hit l)).length = 1) := fun l hl' => HU.out.hits hK l (by omega)
  have HLK : Hid (∀ l : Nat, l < n → look (cb0 K zs) l = some (zs.getD l 0)) := fun l hl' => HU.out.some hK l (by omega)
  have HUV : Hid (unpV (cb0 K zs) (K : Nat) zs 0) := .inr (.inl ⟨K, hK, rfl, HU.out, rfl⟩)
  have HLen : Hid ((cb0 K zs).length ≤ n) := by show _ ≤ _; rw [← hnl, hl]; exact cb0_len K zs hl
  obtain ⟨L, hL⟩ : ∃ L, cb0 K zs = L := ⟨_, rfl⟩
  rw [hL] at HP HU HSH HRI HHI HLK HUV HLen
  obtain ⟨len, hlen⟩ : ∃ len, L.length = len := ⟨_, rfl⟩
  have HLL : Hid (L.length = len) := hlen
  rw [hlen] at HRI HLen
  have hlenn : len ≤ n := HLen.out
  have HPk : Hid (∀ ao c w, RdZ w ao n c zs → Calls Try.prog 9 #[.slice ao n c] w fun e w' => ∃ a' c', e = .returned (.tuple #[.slice a' len c', .int .i64 0]) ∧ RdC w' a' len c' L ∧ Below w.heap.size w w') := fun ao c w h => by
    refine (pack_any ao n c zs L 0 w h HP.out).mono ?_
    rintro e w1 ⟨a', c', rfl, hO, hB⟩
    rw [hlen] at hO ⊢
    exact ⟨a', c', rfl, rdc_own hO, hB⟩
  have HUp : Hid (∀ ao c w, RdC w ao len c L → Calls Try.prog 14 #[.slice ao len c, .int .i64 (K : Nat)] w fun e w' => ∃ a' c', e = .returned (.tuple #[.slice a' n c', .int .i64 0]) ∧ RdZ w' a' n c' zs ∧ Below w.heap.size w w') := fun ao c w h => by
    have := unpack_V ao len c L _ zs 0 w h HUV.out
    rw [hnl] at this; exact this
  have HPWE : Hid (∀ j, j < K → 2 ^ j < n) := fun j hj => by rw [← hnl, hl]; exact Nat.pow_lt_pow_right (by omega) hj
  have HPK : Hid (2 ^ K = n) := by show _ = _; omega
  have HZL : Hid (zs.length = n) := hnl
  have HZP : Hid (∀ z ∈ zs, 0 ≤ z) := hp
  have HZM : Hid (∀ z ∈ zs, z ≤ 9223372036854775807) := hz
  clear hl hp hnl hpw hL hlen HP hz HLen
  go_enter Try.func5, Try.ntmps5
  go_wp2_with (first
    | (go_at_call 11; refine (fixed_at _).mono ?_; rintro e w1 ⟨rfl, hB1⟩; have hA1 := h.below (Nat.le_refl _) hB1)
    | (at_builtin; refine wp_copyZ w1 w1 rfl (.tmp 22) (.tmp 23) rfl (Below.refl _ _) rfl ao n c zs rfl hA1 hm ?_; intro a2 c2' w2 hR2 hB2 hO2; clear hO2; have hW2 := bt2 hB1 hB2)
    | (go_at_call 9; refine (HPk.out _ _ _ hR2).mono ?_; rintro e w3 ⟨a3, c3, rfl, hC3, hB3⟩; have hW3 := bt2 hW2 hB3; have hA3 := h.below (Nat.le_refl _) hW3))
  clear HPk hR2
  go_loopw [5] (fun kv wr => ∃ j : Nat, j ≤ K ∧ kv = .int .i64 j ∧ w3 = wr) (fun kv _ => K - (intOf kv).toNat)
  case atStart => exact ⟨0, Nat.zero_le _, rfl, rfl⟩
  case round =>
    obtain ⟨j, hj, rfl, rfl⟩ := hrel
    have hq : Hid (∃ q, 2 ^ j = q) := ⟨_, rfl⟩
    obtain ⟨q, hq⟩ := hq.out
    have hqb : q ≤ 64 := by rw [← hq]; exact Nat.le_trans (Nat.pow_le_pow_right (by omega) (show j ≤ 6 by omega)) (by decide)
    have hw : wrap64 ((2 : Int) ^ j) = (q : Int) := by
      have e : ((2 : Int) ^ j) = ((2 ^ j : Nat) : Int) := by simp
      rw [e, hq]; unfold wrap64; omega
    have HQ : Hid (2 ^ j = q) := hq
    clear hq
    by_cases hlt : j < K
    · have hqn : (q : Int) < (n : Int) := by have := HPWE.out j hlt; rw [HQ.out] at this; omega
      have hj7 : (j : Int) < 7 := by omega
      go_wp2
      go_roundw
      case rel => exact ⟨j + 1, by omega, by go_num, trivial⟩
      case measure => simp [intOf]; omega
    · obtain rfl : j = K := by omega
      have hqn : ¬ ((q : Int) < (n : Int)) := by have := HPK.out; rw [HQ.out] at this; omega
      go_wp2
      clear HPWE hq
      go_loopw [6, 50] (fun mv iv wr => ∃ (a : Nat) (m : Int), a ≤ n ∧ iv = .int .i64 a ∧ mv = .int .i64 m ∧ Hid ((∀ b, b < a → zs.getD b 0 ≤ m) ∧ (m = 0 ∨ ∃ b, b < a ∧ zs.getD b 0 = m)) ∧ w3 = wr) (fun _ iv _ => n - (intOf iv).toNat)
      case atStart => exact ⟨0, 0, Nat.zero_le _, rfl, rfl, ⟨fun b hb => absurd hb (by omega), .inl rfl⟩, rfl⟩
      case round =>
        obtain ⟨a, m, ha, rfl, rfl, hmx, rfl⟩ := hrel
        by_cases hla : a < n
        · obtain ⟨b, off, rfl, hc⟩ := hA3.cell a hla
          obtain ⟨y, hy⟩ : ∃ y, zs.getD a 0 = y := ⟨_, rfl⟩
          rw [hy] at hc
          have HY : Hid (zs.getD a 0 = y) := hy
          clear hy
          go_wp2
          go_roundw
          case rel => exact ⟨a + 1, _, by omega, by go_num, rfl, max_step hmx.out.1 hmx.out.2 HY.out, trivial⟩
          case measure => simp [intOf]; omega
        · obtain rfl : a = n := by omega
          have HMX : Hid (IsMax zs m) := max_end HZL.out hn0 HZP.out hmx.out.1 hmx.out.2
          have hm0 : 0 ≤ m ∧ m ≤ 9223372036854775807 := by
            obtain ⟨z, hz, e⟩ := HMX.out.2
            have h1 := HZP.out z hz
            have h2 := HZM.out z hz
            omega
          have HR1 : Hid (rightV (j : Nat) (m + 1) zs 0 true) := ⟨fun _ => ⟨rfl, fun z hz => by have := HMX.out.1 z hz; omega⟩, fun _ => rfl⟩
          have HR0 : Hid (rightV (j : Nat) m zs 0 false) := ⟨fun e => (by cases e), fun e => by
            obtain ⟨z, hz, e2⟩ := HMX.out.2
            have := e.2 z hz
            omega⟩
          have hlm : len * 24 ≤ 140737488355328 := by omega
          have hlna : ¬ (a < len) := by omega
          clear hmx HMX
          by_cases hm62 : m < 4611686018427387904
          · have kw1 : IntKind.i64.wrap (m + 1) = m + 1 := by rw [IntKind.wrap_i64]; omega
            go_wp2_with (first
              | (at_builtin; refine wp_copyC w3 rfl (.tmp 59) (.tmp 60) rfl rfl a3 len c3 L rfl hC3 hlm ?_; intro v4 w4 hO4 hB4; obtain ⟨a4, c4, rfl, hR4⟩ := rdc_of_owns hO4; clear hO4; have hW4 := bt2 hW3 hB4; have hC4 := hC3.below (Nat.le_refl _) hB4)
              | (go_at_call 14; refine (HUp.out _ _ _ hR4).mono ?_; rintro e w5 ⟨a5, c5, rfl, hZ5, hB5⟩; have hW5 := bt2 hW4 hB5; have hC5 := hC4.below (Nat.le_refl _) hB5; have hA5 := h.below (Nat.le_refl _) hW5)
              | (go_at_call 13; refine (ints_at _ _ _ _ _ _ zs zs true _ hZ5 hA5 ⟨fun _ => rfl, fun _ => rfl⟩).mono ?_; rintro e w6 ⟨rfl, hB6⟩; have hW6 := bt2 hW5 hB6; have hC6 := hC5.below (Nat.le_refl _) hB6)
              | (go_at_call 18; have _t := q7; refine (right_V _ _ _ L _ m zs 0 false _ hC7 HUV.out HR0.out).mono ?_; rintro e w8 ⟨rfl, hB8⟩; have hW8 := bt2 hW7 hB8; have hC8 := hC7.below (Nat.le_refl _) hB8; have hA8 := h.below (Nat.le_refl _) hW8)
              | (go_at_call 18; refine (right_V _ _ _ L _ (m + 1) zs 0 true _ hC6 HUV.out HR1.out).mono ?_; rintro e w7 ⟨rfl, hB7⟩; have hW7 := bt2 hW6 hB7; have hC7 := hC6.below (Nat.le_refl _) hB7; have q7 : Hid True := trivial))
            have hcl := hC8.lecap
            have hcm := hC8.lemax
            go_loopw [101] (fun iv wr => ∃ p : Nat, p ≤ len ∧ iv = .int .i64 p ∧ Below w8.heap.size w8 wr) (fun iv _ => len - (intOf iv).toNat)
            case atStart => exact ⟨0, Nat.zero_le _, rfl, Below.refl _ _⟩
            case round =>
              obtain ⟨p, hpl, rfl, hnx⟩ := hrel
              by_cases hlp : p < len
              · obtain ⟨gx, ox, rfl, hgx, x0, x1, x2⟩ := (hC8.below (Nat.le_refl _) hnx).cell p hlp
                obtain ⟨s0, s1, s2⟩ := HSH.out _ (mem_getC (by rw [HLL.out]; exact hlp) : L.getD p default ∈ L)
                rcases Nat.eq_zero_or_pos p with hp0 | hp0
                · have hp0' : decide (0 < p) = false := decide_eq_false (by omega)
                  generalize L.getD p default = x at x0 x1 x2 s0 s1 s2
                  obtain ⟨xm, xb, xt⟩ := x
                  dsimp only at x0 x1 x2 s0 s1 s2
                  have t1 : decide (xm < 0) = false := decide_eq_false (by omega)
                  have t2 : decide ((a : Int) ≤ xm) = false := decide_eq_false (by omega)
                  clear hp0
                  go_wp2
                  go_quiet (fail)
                  go_wp2
                  go_roundw
                  case rel => exact ⟨p + 1, by omega, by go_num, below_drewn (bta hnx _) _⟩
                  case measure => simp [intOf]; omega
                · have hp0' : decide (0 < p) = true := decide_eq_true (by omega)
                  obtain ⟨r, hr⟩ : ∃ r, p = r + 1 := ⟨p - 1, by omega⟩
                  have hrise := HRI.out r p (by omega) hlp
                  obtain ⟨gy, oy, e, hgy, y0, y1, y2⟩ := (hC8.below (Nat.le_refl _) hnx).cell r (by omega)
                  simp only [Option.some.injEq, Addr.mk.injEq, and_true] at e
                  obtain ⟨rfl, rfl⟩ := e
                  generalize L.getD p default = x at x0 x1 x2 s0 s1 s2 hrise
                  generalize L.getD r default = y at y0 y1 y2 hrise
                  obtain ⟨xm, xb, xt⟩ := x
                  obtain ⟨ym, yb, yt⟩ := y
                  dsimp only at x0 x1 x2 s0 s1 s2 y0 y1 y2 hrise
                  have t1 : decide (xm < 0) = false := decide_eq_false (by omega)
                  have t2 : decide ((a : Int) ≤ xm) = false := decide_eq_false (by omega)
                  have t3 : decide (xb ≤ yb) = false := decide_eq_false (by omega)
                  have kr : IntKind.i64.wrap ((p : Int) - 1) = (r : Int) := by rw [IntKind.wrap_i64]; omega
                  have hrl : r < len := by omega
                  have z1 : ∀ u, (wr.alloc u).cell? ⟨gx, ox + r * 3 + 1, none⟩ = some (.int .i64 yb) := fun u => ((bal wr u).cell hgx).trans y1
                  clear hr hp0 hrise
                  go_wp2
                  go_quiet (fail)
                  go_wp2
                  go_roundw
                  case rel => exact ⟨p + 1, by omega, by go_num, below_drewn (bta hnx _) _⟩
                  case measure => simp [intOf]; omega
              · obtain rfl : p = len := by omega
                have hW9 := bt2 hW8 hnx
                have hC9 := hC8.below (Nat.le_refl _) hnx
                have hA9 := hA8.below (Nat.le_refl _) hnx
                clear hnx hlp
                obtain ⟨w9, hw9⟩ : ∃ w9, w9 = wr := ⟨_, rfl⟩
                subst hw9
                go_wp2
                go_loopw [142] (fun iv wq => ∃ q : Nat, q ≤ a ∧ iv = .int .i64 q ∧ Below w9.heap.size w9 wq) (fun iv _ => a - (intOf iv).toNat)
                case atStart => exact ⟨0, Nat.zero_le _, rfl, Below.refl _ _⟩
                case round =>
                  obtain ⟨q, hqn, rfl, hnq⟩ := hrel
                  by_cases hlq : q < a
                  · obtain ⟨gz, oz, rfl, hz0⟩ := (hA9.below (Nat.le_refl _) hnq).cell q hlq
                    obtain ⟨wq, hwq⟩ : ∃ wq, wq = wr := ⟨_, rfl⟩
                    subst hwq
                    have hCq := hC9.below (Nat.le_refl _) hnq
                    have HLq := HLK.out q hlq
                    have HHq : Hid ((L.filter (hit (q : Nat))).length = 1) := HHI.out q hlq
                    generalize zs.getD q 0 = y at hz0 HLq
                    have HAt : Hid (∀ w, RdC w a3 p c3 L → Calls Try.prog 16 #[.slice a3 p c3, .int .i64 (q : Nat)] w fun e w' => e = .returned (.tuple #[.int .i64 y, .bool true]) ∧ Below w.heap.size w w') := fun w h => by
                      have := at_at a3 p c3 L (q : Nat) w h
                      rw [HLq] at this; exact this
                    clear HLq
                    go_wp2
                    go_loopw [14, 149] (fun cv iv ws => ∃ s : Nat, s ≤ p ∧ iv = .int .i64 s ∧ cv = .int .i64 (((L.take s).filter (hit (q : Nat))).length : Nat) ∧ Below wq.heap.size wq ws) (fun _ iv _ => p - (intOf iv).toNat)
                    case atStart => exact ⟨0, Nat.zero_le _, rfl, by simp, Below.refl _ _⟩
                    case round =>
                      obtain ⟨s, hsl, rfl, rfl, hns⟩ := hrel
                      by_cases hls : s < p
                      · obtain ⟨gx, ox, e, hgx, x0, x1, x2⟩ := (hCq.below (Nat.le_refl _) hns).cell s hls
                        subst e
                        have HTF : Hid (((L.take (s + 1)).filter (hit (q : Nat))).length = ((L.take s).filter (hit (q : Nat))).length + (if hit (q : Nat) (L.getD s default) then 1 else 0)) := take_filter L (hit (q : Nat)) s (by rw [HLL.out]; exact hls)
                        have hcb : ((L.take s).filter (hit (q : Nat))).length ≤ 64 := by
                          have := List.length_filter_le (hit (q : Nat)) (L.take s)
                          rw [List.length_take] at this
                          omega
                        generalize ((L.take s).filter (hit (q : Nat))).length = cnt at hcb HTF
                        generalize L.getD s default = x at x0 x1 x2 HTF
                        obtain ⟨xm, xb, xt⟩ := x
                        dsimp only at x0 x1 x2
                        by_cases hh : (bits .and .i64 (q : Int) xm == xb) = true
                        · have HT2 : Hid (((L.take (s + 1)).filter (hit (q : Nat))).length = cnt + 1) := by
                            show _ = _
                            rw [HTF.out, if_pos (show hit (q : Nat) ⟨xm, xb, xt⟩ = true from hh)]
                          clear HTF
                          go_wp2
                          go_roundw
                          case rel => exact ⟨s + 1, by omega, by go_num, by rw [HT2.out]; go_num, bta hns _⟩
                          case measure => simp [intOf]; omega
                        · have hh' : (bits .and .i64 (q : Int) xm == xb) = false := by simpa using hh
                          have HT2 : Hid (((L.take (s + 1)).filter (hit (q : Nat))).length = cnt) := by
                            show _ = _
                            rw [HTF.out, if_neg (show ¬ hit (q : Nat) ⟨xm, xb, xt⟩ = true from hh), Nat.add_zero]
                          clear HTF
                          go_wp2
                          go_roundw
                          case rel => exact ⟨s + 1, by omega, by go_num, by rw [HT2.out], bta hns _⟩
                          case measure => simp [intOf]; omega
                      · obtain rfl : s = p := by omega
                        rw [List.take_of_length_le (by rw [HLL.out]; omega), HHq.out]
                        have hCs := hCq.below (Nat.le_refl _) hns
                        have hnqs := bt2 hnq hns
                        go_wp2_with (go_at_call 16; refine (HAt.out _ hCs).mono ?_; rintro e wt ⟨rfl, hBt⟩)
                        go_roundw
                        case rel => exact ⟨q + 1, by omega, by go_num, bt2 hnqs hBt⟩
                        case measure => simp [intOf]; omega
                  · obtain rfl : q = a := by omega
                    go_wp2
                    go_ret
                    exact ⟨rfl, bt2 hW9 hnq⟩
          · go_wp2_with (first
              | (at_builtin; refine wp_copyC w3 rfl (.tmp 59) (.tmp 60) rfl rfl a3 len c3 L rfl hC3 hlm ?_; intro v4 w4 hO4 hB4; obtain ⟨a4, c4, rfl, hR4⟩ := rdc_of_owns hO4; clear hO4; have hW4 := bt2 hW3 hB4; have hC4 := hC3.below (Nat.le_refl _) hB4)
              | (go_at_call 14; refine (HUp.out _ _ _ hR4).mono ?_; rintro e w5 ⟨a5, c5, rfl, hZ5, hB5⟩; have hW5 := bt2 hW4 hB5; have hC5 := hC4.below (Nat.le_refl _) hB5; have hA5 := h.below (Nat.le_refl _) hW5)
              | (go_at_call 13; refine (ints_at _ _ _ _ _ _ zs zs true _ hZ5 hA5 ⟨fun _ => rfl, fun _ => rfl⟩).mono ?_; rintro e w6 ⟨rfl, hB6⟩; have hW6 := bt2 hW5 hB6; have hC6 := hC5.below (Nat.le_refl _) hB6)
              | (go_at_call 18; refine (right_V _ _ _ L _ m zs 0 false _ hC6 HUV.out HR0.out).mono ?_; rintro e w8 ⟨rfl, hB8⟩; have hW8 := bt2 hW6 hB8; have hC8 := hC6.below (Nat.le_refl _) hB8; have hA8 := h.below (Nat.le_refl _) hW8))
            have hcl := hC8.lecap
            have hcm := hC8.lemax
            go_loopw [101] (fun iv wr => ∃ p : Nat, p ≤ len ∧ iv = .int .i64 p ∧ Below w8.heap.size w8 wr) (fun iv _ => len - (intOf iv).toNat)
            case atStart => exact ⟨0, Nat.zero_le _, rfl, Below.refl _ _⟩
            case round =>
              obtain ⟨p, hpl, rfl, hnx⟩ := hrel
              by_cases hlp : p < len
              · obtain ⟨gx, ox, rfl, hgx, x0, x1, x2⟩ := (hC8.below (Nat.le_refl _) hnx).cell p hlp
                obtain ⟨s0, s1, s2⟩ := HSH.out _ (mem_getC (by rw [HLL.out]; exact hlp) : L.getD p default ∈ L)
                rcases Nat.eq_zero_or_pos p with hp0 | hp0
                · have hp0' : decide (0 < p) = false := decide_eq_false (by omega)
                  generalize L.getD p default = x at x0 x1 x2 s0 s1 s2
                  obtain ⟨xm, xb, xt⟩ := x
                  dsimp only at x0 x1 x2 s0 s1 s2
                  have t1 : decide (xm < 0) = false := decide_eq_false (by omega)
                  have t2 : decide ((a : Int) ≤ xm) = false := decide_eq_false (by omega)
                  clear hp0
                  go_wp2
                  go_quiet (fail)
                  go_wp2
                  go_roundw
                  case rel => exact ⟨p + 1, by omega, by go_num, below_drewn (bta hnx _) _⟩
                  case measure => simp [intOf]; omega
                · have hp0' : decide (0 < p) = true := decide_eq_true (by omega)
                  obtain ⟨r, hr⟩ : ∃ r, p = r + 1 := ⟨p - 1, by omega⟩
                  have hrise := HRI.out r p (by omega) hlp
                  obtain ⟨gy, oy, e, hgy, y0, y1, y2⟩ := (hC8.below (Nat.le_refl _) hnx).cell r (by omega)
                  simp only [Option.some.injEq, Addr.mk.injEq, and_true] at e
                  obtain ⟨rfl, rfl⟩ := e
                  generalize L.getD p default = x at x0 x1 x2 s0 s1 s2 hrise
                  generalize L.getD r default = y at y0 y1 y2 hrise
                  obtain ⟨xm, xb, xt⟩ := x
                  obtain ⟨ym, yb, yt⟩ := y
                  dsimp only at x0 x1 x2 s0 s1 s2 y0 y1 y2 hrise
                  have t1 : decide (xm < 0) = false := decide_eq_false (by omega)
                  have t2 : decide ((a : Int) ≤ xm) = false := decide_eq_false (by omega)
                  have t3 : decide (xb ≤ yb) = false := decide_eq_false (by omega)
                  have kr : IntKind.i64.wrap ((p : Int) - 1) = (r : Int) := by rw [IntKind.wrap_i64]; omega
                  have hrl : r < len := by omega
                  have z1 : ∀ u, (wr.alloc u).cell? ⟨gx, ox + r * 3 + 1, none⟩ = some (.int .i64 yb) := fun u => ((bal wr u).cell hgx).trans y1
                  clear hr hp0 hrise
                  go_wp2
                  go_quiet (fail)
                  go_wp2
                  go_roundw
                  case rel => exact ⟨p + 1, by omega, by go_num, below_drewn (bta hnx _) _⟩
                  case measure => simp [intOf]; omega
              · obtain rfl : p = len := by omega
                have hW9 := bt2 hW8 hnx
                have hC9 := hC8.below (Nat.le_refl _) hnx
                have hA9 := hA8.below (Nat.le_refl _) hnx
                clear hnx hlp
                obtain ⟨w9, hw9⟩ : ∃ w9, w9 = wr := ⟨_, rfl⟩
                subst hw9
                go_wp2
                go_loopw [142] (fun iv wq => ∃ q : Nat, q ≤ a ∧ iv = .int .i64 q ∧ Below w9.heap.size w9 wq) (fun iv _ => a - (intOf iv).toNat)
                case atStart => exact ⟨0, Nat.zero_le _, rfl, Below.refl _ _⟩
                case round =>
                  obtain ⟨q, hqn, rfl, hnq⟩ := hrel
                  by_cases hlq : q < a
                  · obtain ⟨gz, oz, rfl, hz0⟩ := (hA9.below (Nat.le_refl _) hnq).cell q hlq
                    obtain ⟨wq, hwq⟩ : ∃ wq, wq = wr := ⟨_, rfl⟩
                    subst hwq
                    have hCq := hC9.below (Nat.le_refl _) hnq
                    have HLq := HLK.out q hlq
                    have HHq : Hid ((L.filter (hit (q : Nat))).length = 1) := HHI.out q hlq
                    generalize zs.getD q 0 = y at hz0 HLq
                    have HAt : Hid (∀ w, RdC w a3 p c3 L → Calls Try.prog 16 #[.slice a3 p c3, .int .i64 (q : Nat)] w fun e w' => e = .returned (.tuple #[.int .i64 y, .bool true]) ∧ Below w.heap.size w w') := fun w h => by
                      have := at_at a3 p c3 L (q : Nat) w h
                      rw [HLq] at this; exact this
                    clear HLq
                    go_wp2
                    go_loopw [14, 149] (fun cv iv ws => ∃ s : Nat, s ≤ p ∧ iv = .int .i64 s ∧ cv = .int .i64 (((L.take s).filter (hit (q : Nat))).length : Nat) ∧ Below wq.heap.size wq ws) (fun _ iv _ => p - (intOf iv).toNat)
                    case atStart => exact ⟨0, Nat.zero_le _, rfl, by simp, Below.refl _ _⟩
                    case round =>
                      obtain ⟨s, hsl, rfl, rfl, hns⟩ := hrel
                      by_cases hls : s < p
                      · obtain ⟨gx, ox, e, hgx, x0, x1, x2⟩ := (hCq.below (Nat.le_refl _) hns).cell s hls
                        subst e
                        have HTF : Hid (((L.take (s + 1)).filter (hit (q : Nat))).length = ((L.take s).filter (hit (q : Nat))).length + (if hit (q : Nat) (L.getD s default) then 1 else 0)) := take_filter L (hit (q : Nat)) s (by rw [HLL.out]; exact hls)
                        have hcb : ((L.take s).filter (hit (q : Nat))).length ≤ 64 := by
                          have := List.length_filter_le (hit (q : Nat)) (L.take s)
                          rw [List.length_take] at this
                          omega
                        generalize ((L.take s).filter (hit (q : Nat))).length = cnt at hcb HTF
                        generalize L.getD s default = x at x0 x1 x2 HTF
                        obtain ⟨xm, xb, xt⟩ := x
                        dsimp only at x0 x1 x2
                        by_cases hh : (bits .and .i64 (q : Int) xm == xb) = true
                        · have HT2 : Hid (((L.take (s + 1)).filter (hit (q : Nat))).length = cnt + 1) := by
                            show _ = _
                            rw [HTF.out, if_pos (show hit (q : Nat) ⟨xm, xb, xt⟩ = true from hh)]
                          clear HTF
                          go_wp2
                          go_roundw
                          case rel => exact ⟨s + 1, by omega, by go_num, by rw [HT2.out]; go_num, bta hns _⟩
                          case measure => simp [intOf]; omega
                        · have hh' : (bits .and .i64 (q : Int) xm == xb) = false := by simpa using hh
                          have HT2 : Hid (((L.take (s + 1)).filter (hit (q : Nat))).length = cnt) := by
                            show _ = _
                            rw [HTF.out, if_neg (show ¬ hit (q : Nat) ⟨xm, xb, xt⟩ = true from hh), Nat.add_zero]
                          clear HTF
                          go_wp2
                          go_roundw
                          case rel => exact ⟨s + 1, by omega, by go_num, by rw [HT2.out], bta hns _⟩
                          case measure => simp [intOf]; omega
                      · obtain rfl : s = p := by omega
                        rw [List.take_of_length_le (by rw [HLL.out]; omega), HHq.out]
                        have hCs := hCq.below (Nat.le_refl _) hns
                        have hnqs := bt2 hnq hns
                        go_wp2_with (go_at_call 16; refine (HAt.out _ hCs).mono ?_; rintro e wt ⟨rfl, hBt⟩)
                        go_roundw
                        case rel => exact ⟨q + 1, by omega, by go_num, bt2 hnqs hBt⟩
                        case measure => simp [intOf]; omega
                  · obtain rfl : q = a := by omega
                    go_wp2
                    go_ret
                    exact ⟨rfl, bt2 hW9 hnq⟩
theorem back_walk (ao : Option Addr) (n c : Nat) (zs : List Int) (w : World) (h : RdZ w ao n c zs) (hm : n * 8 ≤ 140737488351232) (hz : ∀ z ∈ zs, z ≤ 9223372036854775807) :
    Calls Try.prog 5 #[.slice ao n c] w fun e w' => e = .returned (.bool true) ∧ Below w.heap.size w w' := by
  by_cases hr : ∃ k, IsRow zs k
  · obtain ⟨k, hk⟩ := hr
    exact back_yes ao n c k zs w h hk hz
  · exact back_no ao n c zs w h hm hr
end Go.Proofs.Ythkabeaecfiinaa.Ro
