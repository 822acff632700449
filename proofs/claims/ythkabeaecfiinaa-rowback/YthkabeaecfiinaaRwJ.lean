/- Unpack at any number of tracks; Right; RowUnpacks: the walk. -/
import Derived.Test.YthkabeaecfiinaaRwI
namespace Go.Proofs.Ythkabeaecfiinaa.Ro
open Go.RowKit
set_option linter.unusedVariables false

/-- what Unpack answers -/
def unpV (cs : List Cb) (t : Int) (R : List Int) (er : Int) : Prop :=
  ((t < 0 ∨ 6 < t) ∧ R = [] ∧ er = 150) ∨ (∃ k : Nat, k ≤ 6 ∧ t = k ∧ Unp cs k R ∧ er = 0) ∨ (∃ k : Nat, k ≤ 6 ∧ t = k ∧ NoUnp cs k ∧ R = [] ∧ er = 3)
theorem unpV_is (cs : List Cb) (t : Int) : ∃ R er, unpV cs t R er := by
  by_cases ht : t < 0 ∨ 6 < t
  · exact ⟨_, _, .inl ⟨ht, rfl, rfl⟩⟩
  · obtain ⟨k, rfl⟩ : ∃ k : Nat, t = k := ⟨t.toNat, by omega⟩
    by_cases h : ∃ zs, Unp cs k zs
    · obtain ⟨zs, hz⟩ := h
      exact ⟨zs, 0, .inr (.inl ⟨k, by omega, rfl, hz, rfl⟩)⟩
    · exact ⟨[], 3, .inr (.inr ⟨k, by omega, rfl, h, rfl, rfl⟩)⟩
theorem unpV_len {cs : List Cb} {t : Int} {R : List Int} {er : Int} (h : unpV cs t R er) : R.length ≤ 64 := by
  rcases h with ⟨_, rfl, _⟩ | ⟨k, hk, _, hz, _⟩ | ⟨k, _, _, _, rfl, _⟩
  · simp
  · rw [hz.len]; exact (pow_le hk).2
  · simp
theorem unpack_V (ao : Option Addr) (n c : Nat) (cs : List Cb) (t : Int) (R : List Int) (er : Int) (w : World) (h : RdC w ao n c cs) (hv : unpV cs t R er) :
    Calls Try.prog 14 #[.slice ao n c, .int .i64 t] w fun e w' => ∃ a' c', e = .returned (.tuple #[.slice a' R.length c', .int .i64 er]) ∧ RdZ w' a' R.length c' R ∧ Below w.heap.size w w' := by
  rcases hv with ⟨ht, rfl, rfl⟩ | ⟨k, hk, rfl, hz, rfl⟩ | ⟨k, hk, rfl, hz, rfl, rfl⟩
  · refine (unpack_far _ t w ht).mono ?_
    rintro e w1 ⟨rfl, rfl⟩
    exact ⟨none, 0, rfl, rdz_nil w, Below.refl _ _⟩
  · refine (unpack_any ao n c k cs w h hk).mono ?_
    rintro e w1 (⟨zs, a', c', hz', rfl, hO, hB⟩ | ⟨hn, _, _⟩)
    · obtain rfl := hz'.uniq hz hk
      obtain ⟨a2, c2, e2, hR⟩ := rdz_of_owns hO
      obtain ⟨rfl, -, rfl⟩ := Value.slice.inj e2
      rw [← hz.len] at hR ⊢
      exact ⟨a', c', rfl, hR, hB⟩
    · exact absurd ⟨_, hz⟩ hn
  · refine (unpack_any ao n c k cs w h hk).mono ?_
    rintro e w1 (⟨zs, a', c', hz', rfl, hO, hB⟩ | ⟨hn, rfl, hB⟩)
    · exact absurd ⟨_, hz'⟩ hz
    · exact ⟨none, 0, rfl, rdz_nil w1, hB⟩
theorem runpack_V (ao : Option Addr) (n c : Nat) (cs : List Cb) (t : Int) (R : List Int) (er : Int) (w : World) (h : RdC w ao n c cs) (hv : unpV cs t R er) :
    Calls Try.prog 15 #[.slice ao n c, .int .i64 t] w fun e w' => ∃ a' c', e = .returned (.tuple #[.slice a' R.length c', .int .i64 er]) ∧ RdZ w' a' R.length c' R ∧ Below w.heap.size w w' := by
  rcases hv with ⟨ht, rfl, rfl⟩ | ⟨k, hk, rfl, hz, rfl⟩ | ⟨k, hk, rfl, hz, rfl, rfl⟩
  · refine (runpack_far _ t w ht).mono ?_
    rintro e w1 ⟨rfl, rfl⟩
    exact ⟨none, 0, rfl, rdz_nil w, Below.refl _ _⟩
  · refine (runpack_any ao n c k cs w h hk).mono ?_
    rintro e w1 (⟨zs, a', c', hz', rfl, hO, hB⟩ | ⟨hn, _, _⟩)
    · obtain rfl := hz'.uniq hz hk
      obtain ⟨a2, c2, e2, hR⟩ := rdz_of_owns hO
      obtain ⟨rfl, -, rfl⟩ := Value.slice.inj e2
      rw [← hz.len] at hR ⊢
      exact ⟨a', c', rfl, hR, hB⟩
    · exact absurd ⟨_, hz⟩ hn
  · refine (runpack_any ao n c k cs w h hk).mono ?_
    rintro e w1 (⟨zs, a', c', hz', rfl, hO, hB⟩ | ⟨hn, rfl, hB⟩)
    · exact absurd ⟨_, hz'⟩ hz
    · exact ⟨none, 0, rfl, rdz_nil w1, hB⟩
theorem states_lt {cs : List Cb} {k : Nat} {R : List Int} (h : Unp cs k R) (s : Int) : (∀ z ∈ R, z < s) ↔ ∀ a, a < cs.length → (cs.getD a default).t < s := by
  constructor
  · intro g a ha
    refine g _ ((h.states _).2 ⟨cs.getD a default, ?_, rfl⟩)
    rw [List.getD_eq_getElem?_getD, List.getElem?_eq_getElem ha, Option.getD_some]
    exact List.getElem_mem _
  · intro g z hz
    obtain ⟨x, hx, rfl⟩ := (h.states z).1 hz
    obtain ⟨i, hi, rfl⟩ := List.getElem_of_mem hx
    have := g i hi
    rwa [List.getD_eq_getElem?_getD, List.getElem?_eq_getElem hi, Option.getD_some] at this
theorem rows_lt {R : List Int} {n : Nat} (h : R.length = n) (s : Int) : (∀ z ∈ R, z < s) ↔ ∀ a, a < n → R.getD a 0 < s := by
  constructor
  · intro g a ha
    rw [getD_of (by omega)]
    exact g _ (List.getElem_mem _)
  · intro g z hz
    obtain ⟨i, hi, rfl⟩ := List.getElem_of_mem hz
    have := g i (by omega)
    rwa [getD_of hi] at this
theorem right_no (ao : Option Addr) (n c : Nat) (cs : List Cb) (t s : Int) (R : List Int) (er : Int) (w : World) (h : RdC w ao n c cs) (hv : unpV cs t R er) (he : ¬ er = 0) :
    Calls Try.prog 18 #[.slice ao n c, .int .i64 t, .int .i64 s] w fun e w' => e = .returned (.bool false) ∧ Below w.heap.size w w' := by
  have HV : Hid (unpV cs t R er) := hv
  clear hv
  go_enter Try.func18, Try.ntmps18
  go_wp2_with (go_at_call 14; refine (unpack_V _ _ _ cs t R er _ h HV.out).mono ?_; rintro e w1 ⟨a1, c1, rfl, hR1, hB1⟩)
  go_ret
  exact ⟨rfl, hB1⟩
theorem rright_no (ao : Option Addr) (n c : Nat) (cs : List Cb) (t s : Int) (R : List Int) (er : Int) (w : World) (h : RdC w ao n c cs) (hv : unpV cs t R er) (he : ¬ er = 0) :
    Calls Try.prog 19 #[.slice ao n c, .int .i64 t, .int .i64 s] w fun e w' => e = .returned (.bool false) ∧ Below w.heap.size w w' := by
  have HV : Hid (unpV cs t R er) := hv
  clear hv
  go_enter Try.func19, Try.ntmps19
  go_wp2_with (go_at_call 15; refine (runpack_V _ _ _ cs t R er _ h HV.out).mono ?_; rintro e w1 ⟨a1, c1, rfl, hR1, hB1⟩)
  go_ret
  exact ⟨rfl, hB1⟩
set_option maxHeartbeats 1000000 in
theorem right_yes (ao : Option Addr) (n c k : Nat) (cs : List Cb) (s : Int) (R : List Int) (b : Bool) (w : World) (h : RdC w ao n c cs) (hk : k ≤ 6) (hu : Unp cs k R) (hb : b = true ↔ ∀ z ∈ R, z < s) :
    Calls Try.prog 18 #[.slice ao n c, .int .i64 (k : Nat), .int .i64 s] w fun e w' => e = .returned (.bool b) ∧ Below w.heap.size w w' := by
  have HV : Hid (unpV cs (k : Nat) R 0) := .inr (.inl ⟨k, hk, rfl, hu, rfl⟩)
  have HL : Hid (cs.length = n) := h.eqlen
  have HB : Hid (b = true ↔ ∀ a, a < n → (cs.getD a default).t < s) := by rw [← h.eqlen]; exact hb.trans (states_lt hu s)
  have hcn := h.lecap
  have hcx := h.lemax
  clear hu hb
  go_enter Try.func18, Try.ntmps18
  go_wp2_with (go_at_call 14; refine (unpack_V _ _ _ cs _ R 0 _ h HV.out).mono ?_; rintro e w1 ⟨a1, c1, rfl, hR1, hB1⟩)
  go_loopw [21] (fun i wr => ∃ j : Nat, j ≤ n ∧ i = .int .i64 j ∧ Hid (∀ a, a < j → (cs.getD a default).t < s) ∧ Below w.heap.size w wr) (fun i _ => n - (intOf i).toNat)
  case atStart => exact ⟨0, Nat.zero_le _, rfl, fun a ha => absurd ha (by omega), hB1⟩
  case round =>
    obtain ⟨j, hj, rfl, hall, hnx⟩ := hrel
    by_cases hlt : j < n
    · obtain ⟨g, o, rfl, hg, b0, b1, b2⟩ := (h.below (Nat.le_refl _) hnx).cell j hlt
      have hz : w.heap.size ≤ wr.heap.size := hnx.size
      have HX : Hid (∃ x, cs.getD j default = x) := ⟨_, rfl⟩
      obtain ⟨x, hx⟩ := HX.out
      have HY : Hid (cs.getD j default = x) := hx
      rw [hx] at b0 b1 b2
      clear hx HX
      obtain ⟨xm, xb, xt⟩ := x
      dsimp only at b0 b1 b2
      by_cases hh : xt < s
      · have hh' : ¬ s ≤ xt := by omega
        go_wp2
        go_roundw
        case rel =>
          refine ⟨j + 1, by omega, by go_num, fun a ha => ?_, ?_⟩
          · rcases Nat.lt_succ_iff_lt_or_eq.1 ha with ha | rfl
            · exact hall.out a ha
            · rw [HY.out]; exact hh
          · repeat refine Below.setCell ?_ hz _
            exact hnx.alloc hz _
        case measure => simp [intOf]; omega
      · have HE : Hid (b = false) := by
          cases b with
          | false => rfl
          | true =>
            have := HB.out.1 rfl j hlt
            rw [HY.out] at this
            exact absurd this hh
        have hh' : s ≤ xt := by omega
        go_wp2
        go_ret
        refine ⟨retb HE.out.symm, ?_⟩
        repeat refine Below.setCell ?_ hz _
        exact hnx.alloc hz _
    · obtain rfl : j = n := by omega
      have HE : Hid (b = true) := HB.out.2 hall.out
      go_wp2
      go_ret
      exact ⟨retb HE.out.symm, hnx⟩
set_option maxHeartbeats 1000000 in
theorem rright_yes (ao : Option Addr) (n c k : Nat) (cs : List Cb) (s : Int) (R : List Int) (b : Bool) (w : World) (h : RdC w ao n c cs) (hk : k ≤ 6) (hu : Unp cs k R) (hb : b = true ↔ ∀ z ∈ R, z < s) :
    Calls Try.prog 19 #[.slice ao n c, .int .i64 (k : Nat), .int .i64 s] w fun e w' => e = .returned (.bool b) ∧ Below w.heap.size w w' := by
  have HV : Hid (unpV cs (k : Nat) R 0) := .inr (.inl ⟨k, hk, rfl, hu, rfl⟩)
  obtain ⟨N, hN⟩ : ∃ N, R.length = N := ⟨_, rfl⟩
  have HB : Hid (b = true ↔ ∀ a, a < N → R.getD a 0 < s) := hb.trans (rows_lt hN s)
  have HU : Hid (∀ w, RdC w ao n c cs → Calls Try.prog 15 #[.slice ao n c, .int .i64 (k : Nat)] w fun e w' => ∃ a' c', e = .returned (.tuple #[.slice a' N c', .int .i64 0]) ∧ RdZ w' a' N c' R ∧ Below w.heap.size w w') := fun w h => by
    have := runpack_V _ _ _ cs _ R 0 _ h HV.out
    rw [hN] at this; exact this
  clear hu hb hN
  go_enter Try.func19, Try.ntmps19
  go_wp2_with (go_at_call 15; refine (HU.out _ h).mono ?_; rintro e w1 ⟨a1, c1, rfl, hR1, hB1⟩; have hcn := hR1.lecap; have hcx := hR1.lemax)
  go_loopw [9] (fun i wr => ∃ j : Nat, j ≤ N ∧ i = .int .i64 j ∧ Hid (∀ a, a < j → R.getD a 0 < s) ∧ w1 = wr) (fun i _ => N - (intOf i).toNat)
  case atStart => exact ⟨0, Nat.zero_le _, rfl, fun a ha => absurd ha (by omega), rfl⟩
  case round =>
    obtain ⟨j, hj, rfl, hall, rfl⟩ := hrel
    by_cases hlt : j < N
    · obtain ⟨g, o, rfl, hc⟩ := hR1.cell j hlt
      obtain ⟨y, hy⟩ : ∃ y, R.getD j 0 = y := ⟨_, rfl⟩
      rw [hy] at hc
      have HY : Hid (R.getD j 0 = y) := hy
      clear hy
      by_cases hh : y < s
      · have hh' : ¬ s ≤ y := by omega
        go_wp2
        go_roundw
        case rel =>
          refine ⟨j + 1, by omega, by go_num, fun a ha => ?_, trivial⟩
          rcases Nat.lt_succ_iff_lt_or_eq.1 ha with ha | rfl
          · exact hall.out a ha
          · rw [HY.out]; exact hh
        case measure => simp [intOf]; omega
      · have HE : Hid (b = false) := by
          cases b with
          | false => rfl
          | true =>
            have := HB.out.1 rfl j hlt
            rw [HY.out] at this
            exact absurd this hh
        have hh' : s ≤ y := by omega
        go_wp2
        go_ret
        exact ⟨retb HE.out.symm, hB1⟩
    · obtain rfl : j = N := by omega
      have HE : Hid (b = true) := HB.out.2 hall.out
      go_wp2
      go_ret
      exact ⟨retb HE.out.symm, hB1⟩
/-- what Right answers -/
def rightV (t s : Int) (R : List Int) (er : Int) (b : Bool) : Prop := b = true ↔ er = 0 ∧ ∀ z ∈ R, z < s
theorem right_V (ao : Option Addr) (n c : Nat) (cs : List Cb) (t s : Int) (R : List Int) (er : Int) (b : Bool) (w : World) (h : RdC w ao n c cs) (hv : unpV cs t R er) (hb : rightV t s R er b) :
    Calls Try.prog 18 #[.slice ao n c, .int .i64 t, .int .i64 s] w fun e w' => e = .returned (.bool b) ∧ Below w.heap.size w w' := by
  by_cases he : er = 0
  · rcases hv with ⟨_, _, e⟩ | ⟨k, hk, rfl, hz, e⟩ | ⟨k, _, _, _, _, e⟩
    · omega
    · exact right_yes ao n c k cs s R b w h hk hz (hb.trans ⟨fun g => g.2, fun g => ⟨he, g⟩⟩)
    · omega
  · have : b = false := by
      cases b with
      | false => rfl
      | true => exact absurd (hb.1 rfl).1 he
    subst this
    exact right_no ao n c cs t s R er w h hv he
theorem rright_V (ao : Option Addr) (n c : Nat) (cs : List Cb) (t s : Int) (R : List Int) (er : Int) (b : Bool) (w : World) (h : RdC w ao n c cs) (hv : unpV cs t R er) (hb : rightV t s R er b) :
    Calls Try.prog 19 #[.slice ao n c, .int .i64 t, .int .i64 s] w fun e w' => e = .returned (.bool b) ∧ Below w.heap.size w w' := by
  by_cases he : er = 0
  · rcases hv with ⟨_, _, e⟩ | ⟨k, hk, rfl, hz, e⟩ | ⟨k, _, _, _, _, e⟩
    · omega
    · exact rright_yes ao n c k cs s R b w h hk hz (hb.trans ⟨fun g => g.2, fun g => ⟨he, g⟩⟩)
    · omega
  · have : b = false := by
      cases b with
      | false => rfl
      | true => exact absurd (hb.1 rfl).1 he
    subst this
    exact rright_no ao n c cs t s R er w h hv he
theorem rightV_is (t s : Int) (R : List Int) (er : Int) : ∃ b, rightV t s R er b := by
  by_cases h : er = 0 ∧ ∀ z ∈ R, z < s
  · exact ⟨true, fun _ => h, fun _ => rfl⟩
  · exact ⟨false, fun e => (by cases e), fun e => absurd e h⟩
set_option maxHeartbeats 1000000 in
theorem unpacks_walk (ao : Option Addr) (n c : Nat) (cs : List Cb) (t s : Int) (w : World) (h : RdC w ao n c cs) (hm : n * 24 ≤ 140737488355328) :
    Calls Try.prog 4 #[.slice ao n c, .int .i64 t, .int .i64 s] w fun e w' => e = .returned (.bool true) ∧ Below w.heap.size w w' := by
  obtain ⟨R, er, hv⟩ := unpV_is cs t
  obtain ⟨b, hb⟩ := rightV_is t s R er
  have HV : Hid (unpV cs t R er) := hv
  have HB : Hid (rightV t s R er b) := hb
  have HLo : Hid (∃ q, look cs s = q) := ⟨_, rfl⟩
  obtain ⟨q, hq⟩ := HLo.out
  have HA : Hid (∀ ao c w, RdC w ao n c cs → Calls Try.prog 16 #[.slice ao n c, .int .i64 s] w fun e w' => e = .returned (.tuple #[.int .i64 (q.getD 0), .bool q.isSome]) ∧ Below w.heap.size w w') := fun ao c w h => by rw [← hq]; exact at_at ao n c cs s w h
  have HR : Hid (∀ ao c w, RdC w ao n c cs → Calls Try.prog 17 #[.slice ao n c, .int .i64 s] w fun e w' => e = .returned (.tuple #[.int .i64 (q.getD 0), .bool q.isSome]) ∧ Below w.heap.size w w') := fun ao c w h => by rw [← hq]; exact rat_at ao n c cs s w h
  generalize q.getD 0 = qv at HA HR
  generalize q.isSome = qb at HA HR
  clear hv hb hq HLo
  go_enter Try.func4, Try.ntmps4
  go_wp2_with (first
    | (at_builtin; refine wp_copyC w rfl (.tmp 16) (.tmp 17) rfl rfl ao n c cs rfl h hm ?_; intro v1 w1 hO1 hB1; obtain ⟨a1, c1, rfl, hR1⟩ := rdc_of_owns hO1; clear hO1; have hC1 := h.below (Nat.le_refl _) hB1)
    | (go_at_call 14; refine (unpack_V _ _ _ cs t R er _ hR1 HV.out).mono ?_; rintro e w2 ⟨a2, c2, rfl, hZ2, hB2⟩; have hW2 := bt2 hB1 hB2; have hR2 := hR1.below (Nat.le_refl _) hB2; have hC2 := h.below (Nat.le_refl _) hW2)
    | (go_at_call 15; refine (runpack_V _ _ _ cs t R er _ hC2 HV.out).mono ?_; rintro e w3 ⟨a3, c3, rfl, hY3, hB3⟩; have hW3 := bt2 hW2 hB3; have hR3 := hR2.below (Nat.le_refl _) hB3; have hZ3 := hZ2.below (Nat.le_refl _) hB3)
    | (go_at_call 16; refine (HA.out _ _ _ hR3).mono ?_; rintro e w4 ⟨rfl, hB4⟩; have hW4 := bt2 hW3 hB4; have hR4 := hR3.below (Nat.le_refl _) hB4; have hZ4 := hZ3.below (Nat.le_refl _) hB4; have hY4 := hY3.below (Nat.le_refl _) hB4; have hC4 := h.below (Nat.le_refl _) hW4)
    | (go_at_call 17; refine (HR.out _ _ _ hC4).mono ?_; rintro e w5 ⟨rfl, hB5⟩; have hW5 := bt2 hW4 hB5; have hR5 := hR4.below (Nat.le_refl _) hB5; have hZ5 := hZ4.below (Nat.le_refl _) hB5; have hY5 := hY4.below (Nat.le_refl _) hB5)
    | (go_at_call 11; refine (fixed_at _).mono ?_; rintro e w6 ⟨rfl, hB6⟩; have hW6 := bt2 hW5 hB6; have hR6 := hR5.below (Nat.le_refl _) hB6; have hZ6 := hZ5.below (Nat.le_refl _) hB6; have hY6 := hY5.below (Nat.le_refl _) hB6)
    | (go_at_call 13; refine (ints_at _ _ _ _ _ _ R R true _ hZ6 hY6 ⟨fun _ => rfl, fun _ => rfl⟩).mono ?_; rintro e w7 ⟨rfl, hB7⟩; have hW7 := bt2 hW6 hB7; have hR7 := hR6.below (Nat.le_refl _) hB7)
    | (go_at_call 18; refine (right_V _ _ _ cs t s R er b _ hR7 HV.out HB.out).mono ?_; rintro e w8 ⟨rfl, hB8⟩; have hW8 := bt2 hW7 hB8; have hR8 := hR7.below (Nat.le_refl _) hB8; have hC8 := h.below (Nat.le_refl _) hW8)
    | (go_at_call 19; refine (rright_V _ _ _ cs t s R er b _ hC8 HV.out HB.out).mono ?_; rintro e w9 ⟨rfl, hB9⟩; have hW9 := bt2 hW8 hB9; have hR9 := hR8.below (Nat.le_refl _) hB9; have hC9 := h.below (Nat.le_refl _) hW9)
    | (go_at_call 12; refine (cubes_at _ _ _ _ _ _ cs cs true _ hR9 hC9 ⟨fun _ => rfl, fun _ => rfl⟩).mono ?_; rintro e w10 ⟨rfl, hB10⟩))
  go_ret
  exact ⟨by simp, bt2 hW9 hB10⟩
end Go.Proofs.Ythkabeaecfiinaa.Ro
