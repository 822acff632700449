/- The program's letters: arePlaces, Contains, Gather, Spread. -/
import Derived.Test.YtholafecbmhhhaaLetters
import Derived.Test.YtholafecbmhhhaaDigF
namespace Go.Proofs.Ytholafecbmhhhaa.Dg
open Go.RowKit
set_option linter.unusedVariables false

set_option maxHeartbeats 1000000 in
theorem are_at (r : Bool) (ao : Option Addr) (len cap : Nat) (zs : List Int) (w : World) (h : RdZ w ao len cap zs) (hr : r = true ↔ Fit zs len) :
    Calls Try.prog 54 #[.slice ao len cap] w fun e w' => e = .returned (.bool r) ∧ w = w' := by
  have hcap := h.lecap
  have hmax := h.lemax
  have HR : Hid (r = true ↔ Fit zs len) := hr
  clear hr
  by_cases h6 : len ≤ 6
  · go_enter Try.func54, Try.ntmps54
    go_wp2
    go_loop [10] (fun i => ∃ k : Nat, k ≤ len ∧ i = .int .i64 k ∧ Hid (∀ j, j < k → 0 ≤ zs.getD j 0 ∧ zs.getD j 0 < 6)) (fun i => len - (intOf i).toNat)
    case atStart => exact ⟨0, Nat.zero_le _, rfl, fun j hj => absurd hj (by omega)⟩
    case round =>
      obtain ⟨k, hk, rfl, hall⟩ := hrel
      by_cases hlt : k < len
      · obtain ⟨b, off, rfl, hc⟩ := h.cell k hlt
        by_cases hf : 0 ≤ zs.getD k 0 ∧ zs.getD k 0 < 6
        · have HF : Hid (0 ≤ zs.getD k 0 ∧ zs.getD k 0 < 6) := hf
          clear hf
          go_wp2_with (go_at_call 48; refine (isTrack_at _ true _ (decide_eq_true HF.out)).mono ?_; rintro e w' ⟨rfl, rfl⟩)
          go_round
          case rel =>
            refine ⟨k + 1, by omega, by go_num, fun j hj => ?_⟩
            rcases Nat.lt_succ_iff_lt_or_eq.1 hj with hj | rfl
            · exact hall.out j hj
            · exact HF.out
          case measure => simp [intOf]; omega
        · have HF : Hid (¬ (0 ≤ zs.getD k 0 ∧ zs.getD k 0 < 6)) := hf
          clear hf
          have HE : Hid (r = false) := by
            cases r with
            | false => rfl
            | true => exact absurd ((HR.out.1 rfl).2 k hlt) HF.out
          go_wp2_with (go_at_call 48; refine (isTrack_at _ false _ (decide_eq_false HF.out)).mono ?_; rintro e w' ⟨rfl, rfl⟩)
          go_ret
          exact ⟨retB HE.out.symm, rfl⟩
      · obtain rfl : k = len := by omega
        have HE : Hid (r = true) := HR.out.2 ⟨h6, hall.out⟩
        go_wp2
        go_ret
        exact ⟨retB HE.out.symm, rfl⟩
  · have HE : Hid (r = false) := by
      cases r with
      | false => rfl
      | true => exact absurd (HR.out.1 rfl).1 h6
    go_enter Try.func54, Try.ntmps54
    go_wp2
    go_ret
    exact ⟨retB HE.out.symm, rfl⟩

set_option maxHeartbeats 1000000 in
theorem index_at (x : Int) (ao : Option Addr) (len cap : Nat) (zs : List Int) (w : World) (h : ∀ i, i < len → ∃ b off, ao = some ⟨b, off, none⟩ ∧ w.cell? ⟨b, off + i, none⟩ = some (.int .i64 (zs.getD i 0))) (hl : len ≤ cap) (hm : cap ≤ 9223372036854775807) :
    Calls Try.prog 58 #[.slice ao len cap, .int .i64 x] w fun e w' => ∃ r : Int, e = .returned (.int .i64 r) ∧ (0 ≤ r ↔ ∃ j, j < len ∧ zs.getD j 0 = x) ∧ w = w' := by
  have HH : Hid (∀ i, i < len → ∃ b off, ao = some ⟨b, off, none⟩ ∧ w.cell? ⟨b, off + i, none⟩ = some (.int .i64 (zs.getD i 0))) := h
  clear h
  go_enter Try.func58, Try.ntmps58
  go_wp2
  go_loop [8] (fun i => ∃ k : Nat, k ≤ len ∧ i = .int .i64 k ∧ Hid (∀ j, j < k → zs.getD j 0 ≠ x)) (fun i => len - (intOf i).toNat)
  case atStart => exact ⟨0, Nat.zero_le _, rfl, fun j hj => absurd hj (by omega)⟩
  case round =>
    obtain ⟨k, hk, rfl, hall⟩ := hrel
    by_cases hlt : k < len
    · obtain ⟨b, off, rfl, hc⟩ := HH.out k hlt
      by_cases he : zs.getD k 0 = x
      · have HE : Hid (zs.getD k 0 = x) := he
        rw [he] at hc
        clear he
        go_wp2
        go_ret
        exact ⟨_, rfl, ⟨fun _ => ⟨k, hlt, HE.out⟩, fun _ => by omega⟩, rfl⟩
      · have HE : Hid (zs.getD k 0 ≠ x) := he
        generalize zs.getD k 0 = z at hc he
        have he' : ¬ x = z := fun e => he e.symm
        clear he
        go_wp2
        go_round
        case rel =>
          refine ⟨k + 1, by omega, by go_num, fun j hj => ?_⟩
          rcases Nat.lt_succ_iff_lt_or_eq.1 hj with hj | rfl
          · exact hall.out j hj
          · exact HE.out
        case measure => simp [intOf]; omega
    · obtain rfl : k = len := by omega
      go_wp2
      go_ret
      exact ⟨-1, rfl, ⟨fun e => absurd e (by omega), fun ⟨j, hj, e⟩ => absurd e (hall.out j hj)⟩, rfl⟩
theorem contains_at (x : Int) (r : Bool) (ao : Option Addr) (len cap : Nat) (zs : List Int) (w : World) (h : ∀ i, i < len → ∃ b off, ao = some ⟨b, off, none⟩ ∧ w.cell? ⟨b, off + i, none⟩ = some (.int .i64 (zs.getD i 0))) (hl : len ≤ cap) (hm : cap ≤ 9223372036854775807) (hr : r = true ↔ ∃ j, j < len ∧ zs.getD j 0 = x) :
    Calls Try.prog 55 #[.slice ao len cap, .int .i64 x] w fun e w' => e = .returned (.bool r) ∧ w = w' := by
  have HC : Hid (Calls Try.prog 58 #[.slice ao len cap, .int .i64 x] w fun e w' => ∃ r : Int, e = .returned (.int .i64 r) ∧ (0 ≤ r ↔ ∃ j, j < len ∧ zs.getD j 0 = x) ∧ w = w') := index_at x ao len cap zs w h hl hm
  have HR : Hid (r = true ↔ ∃ j, j < len ∧ zs.getD j 0 = x) := hr
  clear h hr
  cases r with
  | true =>
    go_enter Try.func55, Try.ntmps55
    go_wp2_with (go_at_call 58; refine HC.out.mono ?_; rintro e w' ⟨q, rfl, hq, rfl⟩; have hq0 : 0 ≤ q := hq.2 (HR.out.1 rfl); clear hq)
    go_ret
    exact ⟨retB (by simp), rfl⟩
  | false =>
    go_enter Try.func55, Try.ntmps55
    go_wp2_with (go_at_call 58; refine HC.out.mono ?_; rintro e w' ⟨q, rfl, hq, rfl⟩; have hq0 : ¬ 0 ≤ q := (fun e => by have := HR.out.2 (hq.1 e); cases this); clear hq)
    go_ret
    exact ⟨retB (by simpa using hq0), rfl⟩

theorem num_bit (ds : List Nat) (p : Nat) (h : ∀ d ∈ ds, d ≤ 1) : num ds / 2 ^ p % 2 = ds.getD p 0 := by
  induction ds generalizing p with
  | nil => simp [num]
  | cons x r ih =>
    have hx := h x List.mem_cons_self
    cases p with
    | zero => simp only [num, Nat.pow_zero, Nat.div_one, List.getD_cons_zero]; omega
    | succ p =>
      rw [List.getD_cons_succ, ← ih p fun d hd => h d (List.mem_cons_of_mem _ hd), num, Nat.pow_succ, Nat.mul_comm (2 ^ p) 2, ← Nat.div_div_eq_div_mul]
      congr 2
      omega
theorem or_at (X p d : Nat) (hX : X < 64) (hp : p < 6) (hd : d ≤ 1) (h0 : X / 2 ^ p % 2 = 0) : bits .or .i64 (X : Int) (wrap64 ((d : Int) * 2 ^ p)) = ((X + 2 ^ p * d : Nat) : Int) := by
  have all : ∀ X : Fin 64, ∀ p : Fin 6, ∀ d : Fin 2, X.val / 2 ^ p.val % 2 = 0 → bits .or .i64 (X.val : Int) (wrap64 ((d.val : Int) * 2 ^ p.val)) = ((X.val + 2 ^ p.val * d.val : Nat) : Int) := by decide +kernel
  exact all ⟨X, hX⟩ ⟨p, hp⟩ ⟨d, by omega⟩ h0

set_option maxHeartbeats 1000000 in
theorem bgather_in (L : Nat) (ao : Option Addr) (len cap : Nat) (zs : List Int) (w : World) (h : RdZ w ao len cap zs) (hL : L < 64) (hf : Fit zs len) :
    Calls Try.prog 39 #[.int .i64 L, .slice ao len cap] w fun e w' => e = .returned (.tuple #[.int .i64 (num (gath L zs) : Nat), .int .i64 0]) ∧ w = w' := by
  have hcap := h.lecap
  have hmax := h.lemax
  have h6 := hf.1
  have HF : Hid (Fit zs len) := hf
  have HL : Hid (zs.length = len) := h.eqlen
  clear hf
  go_enter Try.func39, Try.ntmps39
  go_wp2_with (first
    | (go_at_call 54; refine (are_at true _ _ _ zs _ h ⟨fun _ => HF.out, fun _ => rfl⟩).mono ?_; rintro e w' ⟨rfl, rfl⟩)
    | (go_at_call 53; refine (isLetter_at _ true _ (decide_eq_true ⟨by omega, by omega⟩)).mono ?_; rintro e w' ⟨rfl, rfl⟩))
  go_loop [6, 19] (fun v i => ∃ k : Nat, k ≤ len ∧ i = .int .i64 k ∧ v = .int .i64 ((num (gath L (zs.take k)) : Nat) : Int)) (fun _ i => len - (intOf i).toNat)
  case atStart => exact ⟨0, Nat.zero_le _, rfl, rfl⟩
  case round =>
    obtain ⟨k, hk, rfl, rfl⟩ := hrel
    by_cases hlt : k < len
    · have hz := HF.out.2 k hlt
      obtain ⟨lb, lo, rfl, hlc⟩ := h.cell k hlt
      have HG : Hid (gath L (zs.take (k + 1)) = gath L (zs.take k) ++ [L / 2 ^ (zs.getD k 0).toNat % 2]) := gath_take L zs k (by rw [HL.out]; exact hlt)
      obtain ⟨p, hp⟩ : ∃ p : Nat, zs.getD k 0 = p := ⟨(zs.getD k 0).toNat, by omega⟩
      rw [hp] at hlc hz HG
      rw [Int.toNat_natCast] at HG
      have hp6 : p < 6 := by omega
      have HD : Hid (∀ w, Calls Try.prog 35 #[.int .i64 L, .int .i64 p] w fun e w' => e = .returned (.int .i64 ((L / 2 ^ p % 2 : Nat) : Int)) ∧ w = w') := fun w => bdigit_in L p w (by omega) (by omega)
      have hgl : (gath L (zs.take k)).length = k := by rw [gath_length, List.length_take, HL.out]; omega
      have hnl := num_lt _ (gath_bit L (zs.take k))
      rw [hgl] at hnl
      have h64 : 2 ^ k ≤ 2 ^ 5 := Nat.pow_le_pow_right (by omega) (by omega)
      have hor := or_at (num (gath L (zs.take k))) k (L / 2 ^ p % 2) (by omega) (by omega) (by omega) (by rw [Nat.div_eq_of_lt hnl])
      have HN : Hid (num (gath L (zs.take (k + 1))) = num (gath L (zs.take k)) + 2 ^ k * (L / 2 ^ p % 2)) := by
        show _ = _
        rw [HG.out, num_append, hgl]; simp [num]
      generalize L / 2 ^ p % 2 = q at HD HN hor
      generalize num (gath L (zs.take k)) = X at hnl HN hor ⊢
      have HO : Hid (bits .or .i64 (X : Int) (wrap64 ((q : Int) * 2 ^ k)) = ((X + 2 ^ k * q : Nat) : Int)) := hor
      clear hor hgl hnl h64 HG hz hp
      go_wp2_with (go_at_call 35; refine (HD.out _).mono ?_; rintro e w' ⟨rfl, rfl⟩)
      go_round
      case rel => exact ⟨k + 1, by omega, by go_num, by rw [HN.out, ← HO.out]⟩
      case measure => simp [intOf]; omega
    · obtain rfl : k = len := by omega
      have HT : Hid (zs.take k = zs) := List.take_of_length_le (by rw [HL.out]; exact Nat.le_refl _)
      go_wp2
      go_ret2
      exact ⟨ret2 (by rw [HT.out]) rfl, rfl⟩
theorem bgather_no (x : Int) (ao : Option Addr) (len cap : Nat) (zs : List Int) (w : World) (h : RdZ w ao len cap zs) (hn : ¬ (Fit zs len ∧ (0 ≤ x ∧ x < 64))) :
    Calls Try.prog 39 #[.int .i64 x, .slice ao len cap] w fun e w' => e = .returned (.tuple #[.int .i64 0, .int .i64 2]) ∧ w = w' := by
  by_cases hf : Fit zs len
  · have H1 : Hid (¬ (0 ≤ x ∧ x < 64)) := fun h1 => hn ⟨hf, h1⟩
    have HF : Hid (Fit zs len) := hf
    clear hf hn
    go_enter Try.func39, Try.ntmps39
    go_wp2_with (first
      | (go_at_call 54; refine (are_at true _ _ _ zs _ h ⟨fun _ => HF.out, fun _ => rfl⟩).mono ?_; rintro e w' ⟨rfl, rfl⟩)
      | (go_at_call 53; refine (isLetter_at _ false _ (decide_eq_false H1.out)).mono ?_; rintro e w' ⟨rfl, rfl⟩))
    go_ret2
    exact ⟨rfl, rfl⟩
  · have HF : Hid (false = true ↔ Fit zs len) := ⟨fun e => absurd e Bool.false_ne_true, fun e => absurd e hf⟩
    clear hf hn
    go_enter Try.func39, Try.ntmps39
    go_wp2_with (go_at_call 54; refine (are_at false _ _ _ zs _ h HF.out).mono ?_; rintro e w' ⟨rfl, rfl⟩)
    go_ret2
    exact ⟨rfl, rfl⟩
end Go.Proofs.Ytholafecbmhhhaa.Dg
