/- The document's wide numbers: made of a number, with the other sign. -/
import Derived.Test.YtkanjgphmafjbaaWideA
import Derived.Laws.BitsAllLaws
namespace Go.Proofs.Ytkanjgphmafjbaa.Wd
open Go.RowKit
set_option linter.unusedVariables false

/-- the slice reads as the digits of m, no zero at the top -/
def Mg (w : World) (ao : Option Addr) (len cap : Nat) (m : Nat) : Prop := ∃ ds, Dg w ao len cap ds ∧ Nm ds ∧ val ds = m ∧ len ≤ 64
theorem Mg.below {w w' : World} {ao : Option Addr} {len cap m : Nat} (h : Mg w ao len cap m) {B : Nat} (hB : w.heap.size ≤ B) (hb : Below B w w') : Mg w' ao len cap m := by
  obtain ⟨ds, h1, h2⟩ := h
  exact ⟨ds, h1.below hB hb, h2⟩
/-- the value of a wide number x -/
abbrev wide (x : Int) (ao : Option Addr) (len cap : Nat) : Value := .agg #[.bool (decide (x < 0)), .slice ao len cap]

theorem trimmed_is (ng : Bool) (ao : Option Addr) (len cap : Nat) (ds : List Nat) (w : World) (h : Dg w ao len cap ds) (x : Int) (hx : x = if ng then -(val ds : Int) else val ds) (hb : val ds < 65536 ^ 64) :
    Calls Try.prog 53 #[.agg #[.bool ng, .slice ao len cap]] w fun e w' => ∃ ao' len' cap', e = .returned (.agg #[.bool (decide (x < 0)), .slice ao' len' cap']) ∧ Mg w' ao' len' cap' x.natAbs ∧ Below w.heap.size w w' := by
  refine (trimmed_at ng ao len cap ds w h).mono ?_
  rintro e w' ⟨n, hn, hz, ht, rfl, hbel⟩
  have hl : (ds.take n).length = n := by rw [List.length_take, h.eqlen]; omega
  have hnm : Nm (ds.take n) := by
    intro hp
    rw [hl] at hp ⊢
    rw [dg_take (by omega)]
    exact ht hp
  have hv : val (ds.take n) = val ds := val_take (by rw [h.eqlen]; exact hn) hz
  have hpos := val_pos hnm
  rw [hl, hv] at hpos
  have habs : val ds = x.natAbs := by cases ng <;> simp at hx <;> omega
  have hneg : (ng && decide (0 < n)) = decide (x < 0) := by
    cases ng
    · simp at hx ⊢; omega
    · simp at hx ⊢
      rw [hpos]; omega
  refine ⟨ao, n, n, by rw [hneg], ⟨ds.take n, (h.cut hn).below (Nat.le_refl _) hbel, hnm, by rw [hv, habs], ?_⟩, hbel⟩
  have := len_le hnm (K := 64) (by rw [hv]; exact hb)
  omega

theorem bcell {W w1 : World} (hb : Below W.heap.size W w1) : (∀ b o, b < W.heap.size → w1.cell? ⟨b, o, none⟩ = W.cell? ⟨b, o, none⟩) ∧ (∀ b o, b < W.heap.size → w1.frozen? ⟨b, o, none⟩ = W.frozen? ⟨b, o, none⟩) :=
  ⟨fun b o h => hb.cell (p := ⟨b, o, none⟩) h, fun b o h => hb.frozen (p := ⟨b, o, none⟩) h⟩
theorem Dg.setCell {w : World} {ao : Option Addr} {len cap : Nat} {ds : List Nat} (h : Dg w ao len cap ds) {p : Addr} {v : Value} (hp : w.cell? p = some v) (hv : ∀ k, v ≠ .int .u64 k) (u : Value) : Dg (w.setCell p u) ao len cap ds := by
  refine ⟨h.eqlen, h.lecap, h.lemax, h.lelen, h.isnil, fun i hi => ?_, h.small⟩
  obtain ⟨b, off, rfl, hc⟩ := h.cell i hi
  refine ⟨b, off, rfl, ?_⟩
  rw [World.cell?_setCell_other]
  · exact hc
  · intro e
    rw [e, hc] at hp
    exact hv _ (Option.some.inj hp).symm
/-- what is stored into a result's place leaves the digits as they are -/
theorem Mg.stored {w : World} {ao : Option Addr} {len cap m : Nat} (h : Mg w ao len cap m) {R : Nat} {b0 b1 : Bool} {s0 : Option Addr} {l0 c0 : Nat} (h0 : w.cell? ⟨R, 0, none⟩ = some (.bool b0)) (h1 : w.cell? ⟨R, 1, none⟩ = some (.slice s0 l0 c0)) (u : Value) :
    Mg ((w.setCell ⟨R, 0, none⟩ (.bool b1)).setCell ⟨R, 1, none⟩ u) ao len cap m := by
  obtain ⟨ds, h2, h3⟩ := h
  have h4 : (w.setCell ⟨R, 0, none⟩ (.bool b1)).cell? ⟨R, 1, none⟩ = some (.slice s0 l0 c0) := by
    rw [World.cell?_setCell_other]
    · exact h1
    · simp
  exact ⟨ds, (h2.setCell h0 (fun _ h => nomatch h) _).setCell h4 (fun _ h => nomatch h) _, h3⟩
theorem and_low (x : Int) (h : 0 ≤ x) (h' : x < 18446744073709551616) : bits .and .u64 x 65535 = ((x.toNat % 65536 : Nat) : Int) := by
  rw [u64_and x 65535 h h' (by omega) (by omega)]
  exact congrArg Int.ofNat (Nat.and_two_pow_sub_one_eq_mod x.toNat 16)

theorem dg_four (W : World) (g : Nat) (hg : W.heap.size = g) (c0 c1 c2 c3 : Int) (d0 d1 d2 d3 : Nat) (h0 : c0 = d0) (h1 : c1 = d1) (h2 : c2 = d2) (h3 : c3 = d3) (l0 : d0 < 65536) (l1 : d1 < 65536) (l2 : d2 < 65536) (l3 : d3 < 65536) :
    Dg (W.alloc (.cells #[.int .u64 c0, .int .u64 c1, .int .u64 c2, .int .u64 c3] 63)) (some ⟨g, 0, none⟩) 4 4 [d0, d1, d2, d3] := by
  subst hg h0 h1 h2 h3
  refine ⟨rfl, Nat.le_refl _, by omega, by omega, (fun h => nomatch h), (fun i hi => ⟨W.heap.size, 0, rfl, ?_⟩), ?_⟩
  · rw [Nat.zero_add]
    match i, hi with
    | 0, _ => simp [dg]
    | 1, _ => simp [dg]
    | 2, _ => simp [dg]
    | 3, _ => simp [dg]
  · intro d hd
    simp only [List.mem_cons, List.not_mem_nil, or_false] at hd
    omega

theorem four_val (m : Nat) (h : m < 18446744073709551616) : val [m % 65536, m / 65536 % 65536, m / 4294967296 % 65536, m / 281474976710656] = m := by
  simp only [val, V, dg, List.length_cons, List.length_nil]
  simp [List.getD]
  omega

set_option maxHeartbeats 1000000 in
theorem of_at (a : Int) (w : World) (l0 : -9223372036854775808 ≤ a) (u0 : a ≤ 9223372036854775807) :
    Calls Try.prog 46 #[.int .i64 a] w fun e w' => ∃ ao len cap, e = .returned (.agg #[.bool (decide (a < 0)), .slice ao len cap]) ∧ Mg w' ao len cap a.natAbs ∧ Below w.heap.size w w' := by
  obtain ⟨m, hm⟩ : ∃ m : Nat, m = a.natAbs := ⟨_, rfl⟩
  have hlt : m < 18446744073709551616 := by omega
  have hv := four_val m hlt
  have hbig : val [m % 65536, m / 65536 % 65536, m / 4294967296 % 65536, m / 281474976710656] < 65536 ^ 64 := by
    rw [hv]; exact Nat.lt_trans hlt (by decide)
  by_cases hs : a < 0
  · have hneg : IntKind.u64.wrap (-IntKind.u64.wrap a) = (m : Int) := by rw [IntKind.wrap_u64, IntKind.wrap_u64]; omega
    have hd : decide (a < 0) = true := by simpa using hs
    rw [hd]
    have HV := hv
    clear hv
    have HM : Hid (m = a.natAbs) := hm
    clear hm
    go_enter Try.func46, Try.ntmps46
    go_wp2_with fail
    refine (trimmed_is true _ _ _ [m % 65536, m / 65536 % 65536, m / 4294967296 % 65536, m / 281474976710656] _ (dg_four _ _ (by simp) _ _ _ _ _ _ _ _ ?_ ?_ ?_ ?_ (by omega) (by omega) (by omega) (by omega)) a ?_ hbig).mono ?_
    · rw [and_low _ (by omega) (by omega)]; omega
    · rw [and_low _ (by omega) (by omega)]; omega
    · rw [and_low _ (by omega) (by omega)]; omega
    · omega
    · rw [HV, if_pos rfl, HM.out]; omega
    · rintro e w' ⟨ao, len, cap, rfl, hM, hB⟩
      obtain ⟨hc, hf⟩ := bcell hB
      have hz : w.heap.size + 1 < w'.heap.size := by have := hB.size; simp at this; omega
      have k0 : w'.cell? ⟨w.heap.size, 0, none⟩ = some (.bool false) := by rw [hc _ _ (by simp; omega)]; simp
      have k1 : w'.cell? ⟨w.heap.size, 1, none⟩ = some (.slice none 0 0) := by rw [hc _ _ (by simp; omega)]; simp
      go_wp2
      exact bodyPost_ret (v := .agg #[.bool true, .slice ao len cap]) (by simp [results, Try.results46, go_sem, k0, k1]) rfl ⟨ao, len, cap, rfl, hM.stored k0 k1 _,
        (((((Below.refl _ _).alloc (Nat.le_refl _) _).alloc (by simp) _).trans (hB.mono (by simp; omega))).setCell (by simp) _).setCell (by simp) _⟩
  · have hneg : a = (m : Int) := by omega
    subst hneg
    have hd : decide ((m : Int) < 0) = false := by simp
    rw [hd]
    have HV := hv
    clear hv hs l0 hm
    go_enter Try.func46, Try.ntmps46
    go_wp2_with fail
    refine (trimmed_is false _ _ _ [m % 65536, m / 65536 % 65536, m / 4294967296 % 65536, m / 281474976710656] _ (dg_four _ _ (by simp) _ _ _ _ _ _ _ _ ?_ ?_ ?_ ?_ (by omega) (by omega) (by omega) (by omega)) m ?_ hbig).mono ?_
    · rw [and_low _ (by omega) (by omega)]; omega
    · rw [and_low _ (by omega) (by omega)]; omega
    · rw [and_low _ (by omega) (by omega)]; omega
    · omega
    · rw [HV]; simp
    · rintro e w' ⟨ao, len, cap, rfl, hM, hB⟩
      obtain ⟨hc, hf⟩ := bcell hB
      have hz : w.heap.size + 1 < w'.heap.size := by have := hB.size; simp at this; omega
      have k0 : w'.cell? ⟨w.heap.size, 0, none⟩ = some (.bool false) := by rw [hc _ _ (by simp; omega)]; simp
      have k1 : w'.cell? ⟨w.heap.size, 1, none⟩ = some (.slice none 0 0) := by rw [hc _ _ (by simp; omega)]; simp
      go_wp2
      exact bodyPost_ret (v := .agg #[.bool false, .slice ao len cap]) (by simp [results, Try.results46, go_sem, k0, k1]) rfl ⟨ao, len, cap, rfl, hM.stored k0 k1 _,
        (((((Below.refl _ _).alloc (Nat.le_refl _) _).alloc (by simp) _).trans (hB.mono (by simp; omega))).setCell (by simp) _).setCell (by simp) _⟩

/-- Minus -/
theorem minus_at (x : Int) (ao : Option Addr) (len cap : Nat) (w : World) (h : Mg w ao len cap x.natAbs) :
    Calls Try.prog 50 #[.agg #[.bool (decide (x < 0)), .slice ao len cap]] w fun e w' => ∃ ao len cap, e = .returned (.agg #[.bool (decide (-x < 0)), .slice ao len cap]) ∧ Mg w' ao len cap x.natAbs ∧ Below w.heap.size w w' := by
  obtain ⟨ds, h1, h2, h3, h4⟩ := h
  have hbig : val ds < 65536 ^ 64 := Nat.lt_of_lt_of_le (val_lt h1.small) (Nat.pow_le_pow_right (by omega) (by rw [h1.eqlen]; exact h4))
  have hx : -x = if (!decide (x < 0)) then -(val ds : Int) else val ds := by
    by_cases hs : x < 0
    · simp [hs]; omega
    · simp [hs]; omega
  have H1 := fun W hW => (h1.below (w' := W) (Nat.le_refl _) hW)
  generalize hng : decide (x < 0) = ng at *
  have hng' : Hid (decide (x < 0) = ng) := hng
  clear hng h1
  go_enter Try.func50, Try.ntmps50
  go_wp2_with fail
  refine (trimmed_is (!ng) ao len cap ds _ (H1 _ (((Below.refl _ _).alloc (Nat.le_refl _) _).alloc (by simp) _)) (-x) hx hbig).mono ?_
  rintro e w' ⟨ao', len', cap', rfl, hM, hB⟩
  obtain ⟨hc, hf⟩ := bcell hB
  have hz : w.heap.size + 1 < w'.heap.size := by have := hB.size; simp at this; omega
  have k0 : w'.cell? ⟨w.heap.size + 1, 0, none⟩ = some (.bool false) := by rw [hc _ _ (by simp)]; simp
  have k1 : w'.cell? ⟨w.heap.size + 1, 1, none⟩ = some (.slice none 0 0) := by rw [hc _ _ (by simp)]; simp
  rw [Int.natAbs_neg] at hM
  clear H1 hx
  go_wp2
  exact bodyPost_ret (v := .agg #[.bool (decide (-x < 0)), .slice ao' len' cap']) (by simp [results, Try.results50, go_sem, k0, k1]) rfl ⟨ao', len', cap', rfl, hM.stored k0 k1 _,
    (((((Below.refl _ _).alloc (Nat.le_refl _) _).alloc (by simp) _).trans (hB.mono (by simp; omega))).setCell (by simp) _).setCell (by simp) _⟩
end Go.Proofs.Ytkanjgphmafjbaa.Wd
