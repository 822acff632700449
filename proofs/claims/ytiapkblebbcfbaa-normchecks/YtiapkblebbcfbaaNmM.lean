/- The program's modulusFits, Check. -/
import Derived.Test.YtiapkblebbcfbaaNmL
namespace Go.Proofs.Ytiapkblebbcfbaa.Gl
open Go.RowKit
set_option linter.unusedVariables false
set_option linter.unusedSimpArgs false

theorem noRest_at (z md : Int) (B : Nat) (k b : Int) (no co : Option Addr) (n c o d : Nat) (w : World) (hR : Rb w B (nrA k b md no co n c o d) 26) (r : Bool) (hr : r = true ↔ z < 0 ∨ md ≤ z) :
    Calls Try.prog 31 #[.int .i64 z, .pointer (some ⟨B, 0, none⟩)] w fun e w' => e = .returned (.bool r) ∧ w = w' := by
  obtain ⟨r4, -⟩ := txcell hR 4 _ rfl
  have HR := mkHid hr
  clear hr
  by_cases h0 : z < 0
  · have HE : Hid (r = true) := HR.out.2 (.inl h0)
    go_enter Try.func31, Try.ntmps31
    go_wp2
    go_ret
    exact ⟨retb HE.out.symm, rfl⟩
  · by_cases h1 : md ≤ z
    · have HE : Hid (r = true) := HR.out.2 (.inr h1)
      have hd : decide (md ≤ z) = true := decide_eq_true h1
      go_enter Try.func31, Try.ntmps31
      go_wp2
      go_ret
      exact ⟨retb HE.out.symm, rfl⟩
    · have HE : Hid (r = false) := by
        cases r with
        | false => rfl
        | true => have := HR.out.1 rfl; omega
      have hd : decide (md ≤ z) = false := decide_eq_false h1
      go_enter Try.func31, Try.ntmps31
      go_wp2
      go_ret
      exact ⟨retb HE.out.symm, rfl⟩
/-- rests modulo md -/
def Rts (md : Int) (zs : List Int) : Prop := ∀ z ∈ zs, 0 ≤ z ∧ z < md
set_option maxHeartbeats 1000000 in
theorem nindexFunc_at (md : Int) (B : Nat) (k b : Int) (no co : Option Addr) (n c o d : Nat) (ao : Option Addr) (len cap : Nat) (zs : List Int) (w : World) (hR : Rb w B (nrA k b md no co n c o d) 26) (h : RdZ w ao len cap zs) :
    Calls Try.prog 48 #[.slice ao len cap, .func (.func 31) #[] #[.pointer (some ⟨B, 0, none⟩)]] w fun e w' => ∃ r : Int, e = .returned (.int .i64 r) ∧ (Rts md zs → r = -1) ∧ (¬ Rts md zs → 0 ≤ r) ∧ w = w' := by
  have hcap := h.lecap
  have hmax := h.lemax
  have HL : Hid (zs.length = len) := h.eqlen
  have NR : Hid (∀ z r, (r = true ↔ z < 0 ∨ md ≤ z) → Calls Try.prog 31 #[.int .i64 z, .pointer (some ⟨B, 0, none⟩)] w fun e w' => e = .returned (.bool r) ∧ w = w') := fun z r hr => noRest_at z md B k b no co n c o d w hR r hr
  clear hR
  go_enter Try.func48, Try.ntmps48
  go_wp2
  go_loop [8] (fun i => ∃ k : Nat, k ≤ len ∧ i = .int .i64 k ∧ Hid (∀ j, j < k → 0 ≤ zs.getD j 0 ∧ zs.getD j 0 < md)) (fun i => len - (intOf i).toNat)
  case atStart => exact ⟨0, Nat.zero_le _, rfl, fun j hj => absurd hj (by omega)⟩
  case round =>
    obtain ⟨k, hk, rfl, hall⟩ := hrel
    by_cases hlt : k < len
    · obtain ⟨b, off, rfl, hc⟩ := h.cell k hlt
      by_cases hd : 0 ≤ zs.getD k 0 ∧ zs.getD k 0 < md
      · have HD : Hid (0 ≤ zs.getD k 0 ∧ zs.getD k 0 < md) := hd
        have N1 := mkHid (NR.out (zs.getD k 0) false ⟨fun e => by (cases e), fun e => by omega⟩)
        clear hd
        go_wp2_with (fail)
        refine N1.out.mono ?_
        rintro e w' ⟨rfl, rfl⟩
        go_wp2_with (fail)
        go_round
        case rel =>
          refine ⟨k + 1, by omega, by go_num, fun j hj => ?_⟩
          rcases Nat.lt_succ_iff_lt_or_eq.1 hj with hj | rfl
          · exact hall.out j hj
          · exact HD.out
        case measure => simp [intOf]; omega
      · have HB : Hid (¬ Rts md zs) := fun hb => hd (by rw [getD_of (by rw [HL.out]; exact hlt)]; exact hb _ (List.getElem_mem _))
        have N1 := mkHid (NR.out (zs.getD k 0) true ⟨fun _ => by omega, fun _ => rfl⟩)
        clear hd
        go_wp2_with (fail)
        refine N1.out.mono ?_
        rintro e w' ⟨rfl, rfl⟩
        go_wp2_with (fail)
        go_ret
        exact ⟨_, rfl, fun hb => absurd hb HB.out, fun _ => by omega, rfl⟩
    · obtain rfl : k = len := by omega
      have HB : Hid (Rts md zs) := by
        intro z hz
        obtain ⟨i, hi, rfl⟩ := List.getElem_of_mem hz
        have := hall.out i (by rw [← HL.out]; exact hi)
        rwa [getD_of hi] at this
      go_wp2
      go_ret
      exact ⟨_, rfl, fun _ => rfl, fun hb => absurd HB.out hb, rfl⟩
theorem ncontainsFunc_at (md : Int) (B : Nat) (k b : Int) (no co : Option Addr) (n c o d : Nat) (ao : Option Addr) (len cap : Nat) (zs : List Int) (r : Bool) (w : World) (hR : Rb w B (nrA k b md no co n c o d) 26) (h : RdZ w ao len cap zs) (hr : r = false ↔ Rts md zs) :
    Calls Try.prog 32 #[.slice ao len cap, .func (.func 31) #[] #[.pointer (some ⟨B, 0, none⟩)]] w fun e w' => e = .returned (.bool r) ∧ w = w' := by
  have IX := mkHid (nindexFunc_at md B k b no co n c o d ao len cap zs w hR h)
  cases r with
  | false =>
    have HB : Hid (Rts md zs) := hr.1 rfl
    clear hr
    go_enter Try.func32, Try.ntmps32
    go_wp2_with (fail)
    refine IX.out.mono ?_
    rintro e w' ⟨r, rfl, h1, -, rfl⟩
    obtain rfl := h1 HB.out
    go_wp2_with (fail)
    go_ret
    exact ⟨rfl, rfl⟩
  | true =>
    have HB : Hid (¬ Rts md zs) := fun hb => by have := hr.2 hb; cases this
    clear hr
    go_enter Try.func32, Try.ntmps32
    go_wp2_with (fail)
    refine IX.out.mono ?_
    rintro e w' ⟨r, rfl, -, h1, rfl⟩
    have h2 := h1 HB.out
    clear h1
    go_wp2_with (fail)
    go_ret
    exact ⟨rfl, rfl⟩
/-- kind and modulus stand right -/
def MFit (k b md : Int) (zs : List Int) : Prop := ((k = 0 ∨ k = 1) ∧ md = 0) ∨ (k = 2 ∧ 1 ≤ md ∧ (0 ≤ b ∧ b < md) ∧ Rts md zs)
set_option maxHeartbeats 2000000 in
theorem modulusFits_at (k b md : Int) (no co : Option Addr) (n c o d : Nat) (zs : List Int) (r : Bool) (w : World) (h : RdZ w co o d zs) (hr : r = true ↔ MFit k b md zs) :
    Calls Try.prog 17 #[nrV k b md no co n c o d] w fun e w' => e = .returned (.bool r) ∧ Below w.heap.size w w' := by
  have hR1 := rb_new w (nrA k b md no co n c o d) 26
  have hB1 := bal w (.cells (nrA k b md no co n c o d) 26)
  have CF : Hid (∀ r, (r = false ↔ Rts md zs) → Calls Try.prog 32 #[.slice co o d, .func (.func 31) #[] #[.pointer (some ⟨w.heap.size, 0, none⟩)]] (w.alloc (.cells (nrA k b md no co n c o d) 26)) fun e w' => e = .returned (.bool r) ∧ (w.alloc (.cells (nrA k b md no co n c o d) 26)) = w') := fun r hr => ncontainsFunc_at md w.heap.size k b no co n c o d co o d zs r _ hR1 (h.below (Nat.le_refl _) hB1) hr
  have NR : Hid (∀ r, (r = true ↔ b < 0 ∨ md ≤ b) → Calls Try.prog 31 #[.int .i64 b, .pointer (some ⟨w.heap.size, 0, none⟩)] (w.alloc (.cells (nrA k b md no co n c o d) 26)) fun e w' => e = .returned (.bool r) ∧ (w.alloc (.cells (nrA k b md no co n c o d) 26)) = w') := fun r hr => noRest_at b md w.heap.size k b no co n c o d _ hR1 r hr
  have HR := mkHid hr
  clear hr h hR1
  by_cases hk : k = 0 ∨ k = 1
  · by_cases hm : md = 0
    · have HE : Hid (r = true) := HR.out.2 (.inl ⟨hk, hm⟩)
      subst hm
      rcases hk with rfl | rfl
      all_goals
        go_enter Try.func17, Try.ntmps17
        go_wp2
        go_ret
        exact ⟨retb HE.out.symm, hB1⟩
    · have HE : Hid (r = false) := by
        cases r with
        | false => rfl
        | true =>
          rcases HR.out.1 rfl with ⟨-, h⟩ | ⟨h, -⟩
          · exact absurd h hm
          · omega
      have hd : (md == 0) = false := by rw [beq_eq_false_iff_ne]; exact hm
      clear HR hm
      rcases hk with rfl | rfl
      all_goals
        go_enter Try.func17, Try.ntmps17
        go_wp2
        go_ret
        exact ⟨retb HE.out.symm, hB1⟩
  · by_cases hk2 : k = 2
    · subst hk2
      have HNF : Hid (¬ (1 ≤ md ∧ (0 ≤ b ∧ b < md) ∧ Rts md zs) → r = false) := fun h => by
        cases r with
        | false => rfl
        | true =>
          rcases HR.out.1 rfl with ⟨h', -⟩ | ⟨-, h'⟩
          · omega
          · exact absurd h' h
      by_cases hm : 1 ≤ md
      · have hd1 : decide (1 ≤ md) = true := decide_eq_true hm
        by_cases hb : 0 ≤ b ∧ b < md
        · have N1 := mkHid (NR.out false ⟨fun e => by (cases e), fun e => by omega⟩)
          by_cases hz : Rts md zs
          · have HE : Hid (r = true) := HR.out.2 (.inr ⟨rfl, hm, hb, hz⟩)
            have C1 := mkHid (CF.out false ⟨fun _ => hz, fun _ => rfl⟩)
            clear HR HNF NR CF hz
            go_enter Try.func17, Try.ntmps17
            go_wp2_with (fail)
            refine N1.out.mono ?_
            rintro e w' ⟨rfl, rfl⟩
            go_wp2_with (fail)
            refine C1.out.mono ?_
            rintro e w' ⟨rfl, rfl⟩
            go_wp2_with (fail)
            go_ret
            exact ⟨retb HE.out.symm, hB1⟩
          · have HE : Hid (r = false) := HNF.out (fun h => hz h.2.2)
            have C1 := mkHid (CF.out true ⟨fun e => by (cases e), fun e => absurd e hz⟩)
            clear HR HNF NR CF hz
            go_enter Try.func17, Try.ntmps17
            go_wp2_with (fail)
            refine N1.out.mono ?_
            rintro e w' ⟨rfl, rfl⟩
            go_wp2_with (fail)
            refine C1.out.mono ?_
            rintro e w' ⟨rfl, rfl⟩
            go_wp2_with (fail)
            go_ret
            exact ⟨retb HE.out.symm, hB1⟩
        · have HE : Hid (r = false) := HNF.out (fun h => hb h.2.1)
          have N1 := mkHid (NR.out true ⟨fun _ => by omega, fun _ => rfl⟩)
          clear HR HNF NR CF hb
          go_enter Try.func17, Try.ntmps17
          go_wp2_with (fail)
          refine N1.out.mono ?_
          rintro e w' ⟨rfl, rfl⟩
          go_wp2_with (fail)
          go_ret
          exact ⟨retb HE.out.symm, hB1⟩
      · have HE : Hid (r = false) := HNF.out (fun h => hm h.1)
        have hd1 : decide (1 ≤ md) = false := decide_eq_false hm
        clear HR HNF NR CF
        go_enter Try.func17, Try.ntmps17
        go_wp2_with (fail)
        go_ret
        exact ⟨retb HE.out.symm, hB1⟩
    · have HE : Hid (r = false) := by
        cases r with
        | false => rfl
        | true =>
          rcases HR.out.1 rfl with ⟨h', -⟩ | ⟨h', -⟩
          · exact absurd h' hk
          · exact absurd h' hk2
      have e0 : (k == 0) = false := by rw [beq_eq_false_iff_ne]; omega
      have e1 : (k == 1) = false := by rw [beq_eq_false_iff_ne]; omega
      have e2 : (k == 2) = false := by rw [beq_eq_false_iff_ne]; omega
      clear HR NR CF hk hk2
      go_enter Try.func17, Try.ntmps17
      go_wp2_with (fail)
      go_ret
      exact ⟨retb HE.out.symm, hB1⟩
theorem nrOk_iff (n : Nr) : nrOk n ↔ n.cs.length = n.ns.length ∧ Rise n.ns ∧ MFit n.kd n.bd n.md n.cs ∧ tight n := by
  unfold nrOk MFit Rts
  constructor
  · rintro ⟨hk, hr, hl, ht, h1, h2⟩
    refine ⟨hl, hr, ?_, ht⟩
    rcases hk with h | h | h
    · exact .inl ⟨.inl h, h1 (by omega)⟩
    · exact .inl ⟨.inr h, h1 (by omega)⟩
    · obtain ⟨a, b, c, d⟩ := h2 h
      exact .inr ⟨h, a, ⟨b, c⟩, d⟩
  · rintro ⟨hl, hr, hm, ht⟩
    rcases hm with ⟨hk, h⟩ | ⟨hk, a, ⟨b, c⟩, d⟩
    · exact ⟨by omega, hr, hl, ht, fun _ => h, fun e => by omega⟩
    · exact ⟨by omega, hr, hl, ht, fun e => absurd hk e, fun _ => ⟨a, b, c, d⟩⟩
end Go.Proofs.Ytiapkblebbcfbaa.Gl
