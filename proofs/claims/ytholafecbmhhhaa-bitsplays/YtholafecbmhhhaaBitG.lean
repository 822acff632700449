/- The program's letters: Spread; and both answers, the program's and the document's. -/
import Derived.Test.YtholafecbmhhhaaBitF
namespace Go.Proofs.Ytholafecbmhhhaa.Dg
open Go.RowKit
set_option linter.unusedVariables false

set_option maxHeartbeats 2000000 in
theorem bspread_in (L : Nat) (r c : Int) (ao : Option Addr) (len cap : Nat) (zs : List Int) (w : World) (h : RdZ w ao len cap zs) (hL : L < 2 ^ len) (hf : Fit zs len)
    (hok : (∀ j, j < len → Free zs j) → r = ((num (spr L zs len) : Nat) : Int) ∧ c = 0) (hno : (∃ j, j < len ∧ ¬ Free zs j) → r = 0 ∧ c = 5) :
    Calls Try.prog 37 #[.int .i64 L, .slice ao len cap] w fun e w' => e = .returned (.tuple #[.int .i64 r, .int .i64 c]) ∧ w = w' := by
  have hcap := h.lecap
  have hmax := h.lemax
  have h6 := hf.1
  have HF : Hid (Fit zs len) := hf
  have HOK : Hid ((∀ j, j < len → Free zs j) → r = ((num (spr L zs len) : Nat) : Int) ∧ c = 0) := hok
  have HNO : Hid ((∃ j, j < len ∧ ¬ Free zs j) → r = 0 ∧ c = 5) := hno
  clear hf hok hno
  have hp : 2 ^ len ≤ 2 ^ 6 := Nat.pow_le_pow_right (by omega) h6
  have hL64 : L < 64 := by omega
  have hw : wrap64 ((2 : Int) ^ len) = ((2 ^ len : Nat) : Int) := by
    rw [show ((2 : Int) ^ len) = ((2 ^ len : Nat) : Int) from by simp]
    unfold wrap64; omega
  have hLI : (L : Int) < wrap64 ((2 : Int) ^ len) := by rw [hw]; omega
  clear hw hp hL
  go_enter Try.func37, Try.ntmps37
  go_wp2_with (go_at_call 54; refine (are_at true _ _ _ zs _ h ⟨fun _ => HF.out, fun _ => rfl⟩).mono ?_; rintro e w' ⟨rfl, rfl⟩)
  go_loop [6, 25] (fun v i => ∃ k : Nat, k ≤ len ∧ i = .int .i64 k ∧ v = .int .i64 ((num (spr L zs k) : Nat) : Int) ∧ Hid (∀ j, j < k → Free zs j)) (fun _ i => len - (intOf i).toNat)
  case atStart => exact ⟨0, Nat.zero_le _, rfl, rfl, fun j hj => absurd hj (by omega)⟩
  case round =>
    obtain ⟨k, hk, rfl, rfl, hfree⟩ := hrel
    by_cases hlt : k < len
    · have hz := HF.out.2 k hlt
      have hfr := free_iff zs k (by omega)
      have hcon : (∃ j, j < k ∧ zs.getD j 0 = zs.getD k 0) ↔ ¬ Free zs k := by
        constructor
        · rintro ⟨j, hj, e⟩ hF
          exact hfr.1 hF j hj (by rw [e])
        · intro hF
          apply Classical.byContradiction
          intro hn
          apply hF
          refine hfr.2 (fun j hj e => hn ⟨j, hj, ?_⟩)
          have := HF.out.2 j (by omega)
          omega
      have hcells := h.cell
      obtain ⟨lb, lo, rfl, hlc⟩ := h.cell k hlt
      have HH : Hid (∀ i, i < k → ∃ b off, (some ⟨lb, lo, none⟩ : Option Addr) = some ⟨b, off, none⟩ ∧ w.cell? ⟨b, off + i, none⟩ = some (.int .i64 (zs.getD i 0))) := fun i hi => hcells i (by omega)
      clear hcells
      by_cases hF : Free zs k
      · have HC : Hid (Calls Try.prog 55 #[.slice (some ⟨lb, lo, none⟩) k cap, .int .i64 (zs.getD k 0)] w fun e w' => e = .returned (.bool false) ∧ w = w') :=
          contains_at (zs.getD k 0) false _ k cap zs w HH.out (by omega) hmax ⟨fun e => absurd e Bool.false_ne_true, fun e => absurd hF (hcon.1 e)⟩
        obtain ⟨p, hp⟩ : ∃ p : Nat, zs.getD k 0 = p := ⟨(zs.getD k 0).toNat, by omega⟩
        have hz0 := spr_zero L zs k p (by omega) (by unfold Free at hF; rwa [hp, Int.toNat_natCast] at hF)
        have HS : Hid (num (spr L zs (k + 1)) = num (spr L zs k) + 2 ^ p * (L / 2 ^ k % 2)) := by
          show _ = _
          rw [spr, hp, Int.toNat_natCast, num_set _ _ _ (by rw [spr_length]; omega) hz0]
        rw [hp] at hlc hz HC
        have hsl := num_lt _ (spr_bit L zs k)
        rw [spr_length] at hsl
        have hnb := num_bit (spr L zs k) p (spr_bit L zs k)
        rw [hz0] at hnb
        have hor := or_at (num (spr L zs k)) p (L / 2 ^ k % 2) hsl (by omega) (by omega) hnb
        have HD : Hid (∀ w, Calls Try.prog 35 #[.int .i64 L, .int .i64 k] w fun e w' => e = .returned (.int .i64 ((L / 2 ^ k % 2 : Nat) : Int)) ∧ w = w') := fun w => bdigit_in L k w (by omega) (by omega)
        have HFR : Hid (∀ j, j < k + 1 → Free zs j) := fun j hj => by
          rcases Nat.lt_succ_iff_lt_or_eq.1 hj with hj | rfl
          · exact hfree.out j hj
          · exact hF
        generalize L / 2 ^ k % 2 = q at HD HS hor
        generalize num (spr L zs k) = X at hsl HS hor hnb ⊢
        have HO : Hid (bits .or .i64 (X : Int) (wrap64 ((q : Int) * 2 ^ p)) = ((X + 2 ^ p * q : Nat) : Int)) := hor
        clear hor hsl hnb hz0 hp hF hcon hfr HH
        go_wp2_with (first
          | (go_at_call 55; refine HC.out.mono ?_; rintro e w' ⟨rfl, rfl⟩)
          | (go_at_call 35; refine (HD.out _).mono ?_; rintro e w' ⟨rfl, rfl⟩))
        go_round
        case rel => exact ⟨k + 1, by omega, by go_num, by rw [HS.out, ← HO.out], HFR.out⟩
        case measure => simp [intOf]; omega
      · have HC : Hid (Calls Try.prog 55 #[.slice (some ⟨lb, lo, none⟩) k cap, .int .i64 (zs.getD k 0)] w fun e w' => e = .returned (.bool true) ∧ w = w') :=
          contains_at (zs.getD k 0) true _ k cap zs w HH.out (by omega) hmax ⟨fun _ => hcon.2 hF, fun _ => rfl⟩
        have HE : Hid (r = 0 ∧ c = 5) := HNO.out ⟨k, hlt, hF⟩
        generalize zs.getD k 0 = z at hlc HC hz
        clear hF hcon hfr HH hz
        go_wp2_with (go_at_call 55; refine HC.out.mono ?_; rintro e w' ⟨rfl, rfl⟩)
        go_ret2
        exact ⟨ret2 HE.out.1.symm HE.out.2.symm, rfl⟩
    · obtain rfl : k = len := by omega
      have HE : Hid (r = ((num (spr L zs k) : Nat) : Int) ∧ c = 0) := HOK.out hfree.out
      go_wp2
      go_ret2
      exact ⟨ret2 HE.out.1.symm HE.out.2.symm, rfl⟩
theorem bspread_no (x : Int) (ao : Option Addr) (len cap : Nat) (zs : List Int) (w : World) (h : RdZ w ao len cap zs) (hn : ¬ (Fit zs len ∧ 0 ≤ x ∧ x < ((2 ^ len : Nat) : Int))) :
    Calls Try.prog 37 #[.int .i64 x, .slice ao len cap] w fun e w' => e = .returned (.tuple #[.int .i64 0, .int .i64 2]) ∧ w = w' := by
  have hcap := h.lecap
  have hmax := h.lemax
  by_cases hf : Fit zs len
  · have HF : Hid (true = true ↔ Fit zs len) := ⟨fun _ => hf, fun _ => rfl⟩
    have h6 := hf.1
    have hp : 2 ^ len ≤ 2 ^ 6 := Nat.pow_le_pow_right (by omega) h6
    have hp0 := Nat.two_pow_pos len
    have hw : wrap64 ((2 : Int) ^ len) = ((2 ^ len : Nat) : Int) := by
      rw [show ((2 : Int) ^ len) = ((2 ^ len : Nat) : Int) from by simp]
      unfold wrap64; omega
    by_cases h0 : x < 0
    · clear hn hf hp hp0 hw
      go_enter Try.func37, Try.ntmps37
      go_wp2_with (go_at_call 54; refine (are_at true _ _ _ zs _ h HF.out).mono ?_; rintro e w' ⟨rfl, rfl⟩)
      go_ret2
      exact ⟨rfl, rfl⟩
    · have hx : wrap64 ((2 : Int) ^ len) ≤ x := by rw [hw]; apply Classical.byContradiction; intro hc; exact hn ⟨hf, by omega, by omega⟩
      clear hn hf hp hp0 hw
      go_enter Try.func37, Try.ntmps37
      go_wp2_with (go_at_call 54; refine (are_at true _ _ _ zs _ h HF.out).mono ?_; rintro e w' ⟨rfl, rfl⟩)
      go_ret2
      exact ⟨rfl, rfl⟩
  · have HF : Hid (false = true ↔ Fit zs len) := ⟨fun e => absurd e Bool.false_ne_true, fun e => absurd e hf⟩
    clear hf hn
    go_enter Try.func37, Try.ntmps37
    go_wp2_with (go_at_call 54; refine (are_at false _ _ _ zs _ h HF.out).mono ?_; rintro e w' ⟨rfl, rfl⟩)
    go_ret2
    exact ⟨rfl, rfl⟩
end Go.Proofs.Ytholafecbmhhhaa.Dg
