/- The program's rises, narrow, modulusFits, Check. -/
import Derived.Test.YtiapkblebbcfbaaGreatNmK
namespace Go.Proofs.YtiapkblebbcfbaaGreat.Gl
open Go.RowKit
set_option linter.unusedVariables false
set_option linter.unusedSimpArgs false

theorem nmB_not {x : ByteArray} (h : ¬ IsName x) : nmB x = false := by
  cases hx : nmB x with
  | false => rfl
  | true => exact absurd ((nmB_iff x).1 hx) h
set_option maxHeartbeats 4000000 in
theorem prises_at (ao : Option Addr) (n c : Nat) (T : List ByteArray) (b : Bool) (w : World) (h : RdS w ao n c T) (hT : Short T) (hb : b = true ↔ Rise T) :
    Calls Tryz.prog 30 #[.slice ao n c] w fun e w' => e = .returned (.bool b) ∧ Below w.heap.size w w' := by
  have hcn := h.lecap
  have hcx := h.lemax
  have HT : Hid (T.length = n) := h.eqlen
  have HB : Hid (b = true ↔ Rise T) := hb
  have HSh : Hid (Short T) := hT
  clear hb hT
  go_enter Tryz.func30, Tryz.ntmps30
  go_wp2
  go_loopw [7] (fun i wr => ∃ k : Nat, k ≤ n ∧ i = .int .i64 k ∧ Hid (∀ j, j < k → RiseAt T j) ∧ Below w.heap.size w wr) (fun i _ => n - (intOf i).toNat)
  case atStart => exact ⟨0, Nat.zero_le _, rfl, fun j hj => absurd hj (by omega), Below.refl _ _⟩
  case round =>
    obtain ⟨k, hk, rfl, hall, hB⟩ := hrel
    by_cases hlt : k < n
    · obtain ⟨g, o, rfl, hc0⟩ := h.cell k hlt
      have hgl := World.block_lt_of_cell? _ _ hc0
      have hc := (hB.cell (p := ⟨g, o + k, none⟩) hgl).trans hc0
      have hxs : Sz (T.getD k emp).size := HSh.out.get (by rw [HT.out]; exact hlt)
      have HNO : Hid (¬ RiseAt T k → b = false) := fun hn => by
        cases b with
        | false => rfl
        | true => exact absurd (HB.out.1 rfl k (by rw [HT.out]; exact hlt)) hn
      by_cases hnm : IsName (T.getD k emp)
      · have NM := mkHid (isName_at (T.getD k emp) wr hxs)
        rw [(nmB_iff _).2 hnm] at NM
        rcases Nat.eq_zero_or_pos k with hkz | hkp
        · have HY : Hid (RiseAt T k) := ⟨hnm, fun h => by omega⟩
          have hdec : decide (0 < k) = false := decide_eq_false (by omega)
          have hkq : k ≤ 0 := by omega
          clear hnm hxs HNO hkz
          generalize hx : T.getD k emp = x at *
          clear hx
          go_wp2_with (fail)
          refine NM.out.mono ?_
          rintro e w2 ⟨rfl, hB2⟩
          have hBc := bt2 hB hB2
          go_wp2_with (fail)
          go_roundw
          case rel =>
            refine ⟨k + 1, by omega, by go_num, fun j hj => ?_, hBc⟩
            obtain rfl : j = k := by omega
            exact HY.out
          case measure => simp [intOf]; omega
        · obtain ⟨q, hq1, hq2⟩ : ∃ q, q + 1 ≤ k ∧ k ≤ q + 1 := ⟨k - 1, by omega, by omega⟩
          have hkq : k - 1 = q := by omega
          obtain ⟨g', o', e', hd0⟩ := h.cell q (by omega)
          obtain ⟨rfl, rfl⟩ : g = g' ∧ o = o' := by simpa using e'
          have i1 : (k : Int) - 1 = (q : Int) := by omega
          have i2 : IntKind.i64.wrap (q : Int) = (q : Int) := wrap_nat (by omega)
          have i3 : (0 : Int) ≤ (q : Int) := by omega
          have i4 : (q : Int) < (n : Int) := by omega
          have hdec : decide ((0 : Int) < (k : Int)) = true := decide_eq_true (by omega)
          have HR : Hid (ltS (T.getD q emp) (T.getD k emp) = true → RiseAt T k) := fun hl => ⟨hnm, fun _ => by rw [hkq]; exact hl⟩
          have HN2 : Hid (ltS (T.getD q emp) (T.getD k emp) = false → b = false) := fun hl => HNO.out (fun hr => by have := hr.2 (by omega); rw [hkq, hl] at this; cases this)
          clear hnm hxs HNO e' hkq
          generalize hx : T.getD k emp = x at *
          generalize hy : T.getD q emp = y at *
          clear hx hy
          cases hls : ltS y x with
          | true =>
            have HY : Hid (RiseAt T k) := HR.out hls
            have hl2 : Op.bytesLess y.toList x.toList = true := hls
            clear HR HN2 hls
            go_wp2_with (fail)
            refine NM.out.mono ?_
            rintro e w2 ⟨rfl, hB2⟩
            have hBc := bt2 hB hB2
            have hd2 := (hBc.cell (p := ⟨g, o + q, none⟩) hgl).trans hd0
            go_wp2_with (fail)
            go_roundw
            case rel =>
              refine ⟨k + 1, by omega, by go_num, fun j hj => ?_, hBc⟩
              rcases Nat.lt_succ_iff_lt_or_eq.1 hj with hj | rfl
              · exact hall.out j hj
              · exact HY.out
            case measure => simp [intOf]; omega
          | false =>
            have HE : Hid (b = false) := HN2.out hls
            have hl2 : Op.bytesLess y.toList x.toList = false := hls
            clear HR HN2 hls
            go_wp2_with (fail)
            refine NM.out.mono ?_
            rintro e w2 ⟨rfl, hB2⟩
            have hBc := bt2 hB hB2
            have hd2 := (hBc.cell (p := ⟨g, o + q, none⟩) hgl).trans hd0
            go_wp2_with (fail)
            go_ret
            exact ⟨retb HE.out.symm, hBc⟩
      · have HE : Hid (b = false) := HNO.out (fun hr => hnm hr.1)
        have NM := mkHid (isName_at (T.getD k emp) wr hxs)
        rw [nmB_not hnm] at NM
        clear hnm hxs HNO
        generalize hx : T.getD k emp = x at *
        clear hx
        go_wp2_with (fail)
        refine NM.out.mono ?_
        rintro e w2 ⟨rfl, hB2⟩
        have hBc := bt2 hB hB2
        go_wp2_with (fail)
        go_ret
        exact ⟨retb HE.out.symm, hBc⟩
    · obtain rfl : k = n := by omega
      have HE : Hid (b = true) := HB.out.2 (fun i hi => hall.out i (by rw [HT.out] at hi; exact hi))
      go_wp2
      go_ret
      exact ⟨retb HE.out.symm, hB⟩
/-- a normal atom's value -/
abbrev nrV (k b m : Int) (no co : Option Addr) (n c o d : Nat) : Value := .agg #[.int .i64 k, .slice no n c, .slice co o d, .int .i64 b, .int .i64 m]
abbrev nrA (k b m : Int) (no co : Option Addr) (n c o d : Nat) : Array Value := #[.int .i64 k, .slice no n c, .slice co o d, .int .i64 b, .int .i64 m]
theorem row_of_rdz {w : World} {ao : Option Addr} {n c : Nat} {zs : List Int} (h : RdZ w ao n c zs) (hz : ∀ z ∈ zs, I64 z) (hm : n ≤ maxLen) : Chk.Row w (.slice ao n c) zs := by
  refine ⟨ao, c, by rw [h.eqlen], by rw [h.eqlen]; exact hm, fun h0 => ?_, fun z hz' => ?_⟩
  · rw [h.eqlen] at h0
    obtain ⟨b, off, e, -⟩ := h.cell 0 h0
    refine ⟨b, off, e, fun i hi => ?_⟩
    rw [h.eqlen] at hi
    obtain ⟨b', off', e', hc⟩ := h.cell i hi
    rw [e] at e'; cases e'
    exact hc
  · have h1 := (hz z hz').1
    have h2 := (hz z hz').2
    simp [Lit.wf, IntKind.min, IntKind.max, IntKind.signed, IntKind.bits]
    omega
theorem narrow_at (k b m : Int) (no co : Option Addr) (n c o d : Nat) (zs : List Int) (r : Bool) (w : World) (h : RdZ w co o d zs) (hz : ∀ z ∈ zs, I64 z) (hm : o ≤ maxLen) (hb : I64 b) (hr : r = true ↔ Chk.tot zs + b.natAbs ≤ 9223372036854775807) :
    Calls Tryz.prog 23 #[nrV k b m no co n c o d] w fun e w' => e = .returned (.bool r) ∧ Below w.heap.size w w' := by
  have T1 : Hid (∀ w', Below w.heap.size w w' → Calls Tryz.prog 44 #[.slice co o d] w' fun e w'' => e = .returned (.tuple #[.int .i64 (Chk.outT (Chk.tot zs)), .int .i64 (Chk.errT (Chk.tot zs))]) ∧ w' = w'') := fun w' h' => Chk.total_at _ zs w' (row_of_rdz (h.below (Nat.le_refl _) h') hz hm)
  have HR := mkHid hr
  clear hr h
  by_cases h0 : Chk.tot zs ≤ 9223372036854775807
  · have e1 : Chk.outT (Chk.tot zs) = (Chk.tot zs : Int) := if_pos h0
    have e2 : Chk.errT (Chk.tot zs) = 0 := if_pos h0
    rw [e1, e2] at T1
    have ht : I64 (Chk.tot zs : Int) := ⟨by omega, by omega⟩
    generalize htt : Chk.tot zs = t at *
    have T2 : Hid (∀ (w' : World) (g : Nat), w'.heap.size = g → Calls Tryz.prog 44 #[.slice (some ⟨g, 0, none⟩) 2 2] (w'.alloc (.cells #[.int .i64 t, .int .i64 b] 2)) fun e w'' => e = .returned (.tuple #[.int .i64 (Chk.outT (Chk.tot [(t : Int), b])), .int .i64 (Chk.errT (Chk.tot [(t : Int), b]))]) ∧ (w'.alloc (.cells #[.int .i64 t, .int .i64 b] 2)) = w'') := fun w' g hg => by
      refine Chk.total_at _ [(t : Int), b] _ (row_of_rdz (rdz_built w' [(t : Int), b] 2 2 g hg rfl (by decide)) (fun z hz => ?_) (by decide))
      rcases List.mem_cons.1 hz with rfl | hz
      · exact ht
      · rw [List.mem_singleton] at hz; subst hz; exact hb
    have e3 : Chk.tot [(t : Int), b] = t + b.natAbs := by simp [Chk.tot]
    rw [e3] at T2
    have hB1 := bal w (.cells (nrA k b m no co n c o d) 44)
    have hc1 := rb_new w (nrA k b m no co n c o d) 44
    have hB2 := bta hB1 (.cells #[.int .i64 t, .int .i64 b] 2)
    have hs1 : (w.alloc (.cells (nrA k b m no co n c o d) 44)).heap.size = w.heap.size + 1 := by simp
    obtain ⟨ev, hev, hcase⟩ : ∃ ev : Int, Chk.errT (t + b.natAbs) = ev ∧ ((r = true ∧ ev = 0) ∨ (r = false ∧ ev = 10)) := by
      by_cases h1 : t + b.natAbs ≤ 9223372036854775807
      · exact ⟨0, if_pos h1, .inl ⟨HR.out.2 h1, rfl⟩⟩
      · refine ⟨10, if_neg h1, .inr ⟨?_, rfl⟩⟩
        cases r with
        | false => rfl
        | true => exact absurd (HR.out.1 rfl) h1
    rw [hev] at T2
    generalize Chk.outT (t + b.natAbs) = ov at T2
    clear e1 e2 e3 hev HR
    rcases hcase with ⟨rfl, rfl⟩ | ⟨rfl, rfl⟩
    all_goals
      go_enter Tryz.func23, Tryz.ntmps23
      go_wp2_with (fail)
      refine (T1.out _ hB1).mono ?_
      rintro e w2 ⟨rfl, rfl⟩
      go_wp2_with (fail)
      refine (T2.out _ _ hs1).mono ?_
      rintro e w2 ⟨rfl, rfl⟩
      go_wp2_with (fail)
      go_ret
      exact ⟨rfl, hB2⟩
  · have e1 : Chk.outT (Chk.tot zs) = 0 := if_neg h0
    have e2 : Chk.errT (Chk.tot zs) = 10 := if_neg h0
    rw [e1, e2] at T1
    have HE : Hid (r = false) := by
      cases r with
      | false => rfl
      | true => exact absurd (Nat.le_trans (Nat.le_add_right _ _) (HR.out.1 rfl)) h0
    clear h0 e1 e2 HR
    have hB1 := bal w (.cells (nrA k b m no co n c o d) 44)
    go_enter Tryz.func23, Tryz.ntmps23
    go_wp2_with (fail)
    refine (T1.out _ hB1).mono ?_
    rintro e w2 ⟨rfl, rfl⟩
    go_wp2_with (fail)
    go_ret
    exact ⟨retb HE.out.symm, hB1⟩
end Go.Proofs.YtiapkblebbcfbaaGreat.Gl
/- The program's modulusFits, Check. -/
namespace Go.Proofs.YtiapkblebbcfbaaGreat.Gl
open Go.RowKit
set_option linter.unusedVariables false
set_option linter.unusedSimpArgs false

theorem noRest_at (z md : Int) (B : Nat) (k b : Int) (no co : Option Addr) (n c o d : Nat) (w : World) (hR : Rb w B (nrA k b md no co n c o d) 44) (r : Bool) (hr : r = true ↔ z < 0 ∨ md ≤ z) :
    Calls Tryz.prog 56 #[.int .i64 z, .pointer (some ⟨B, 0, none⟩)] w fun e w' => e = .returned (.bool r) ∧ w = w' := by
  obtain ⟨r4, -⟩ := txcell hR 4 _ rfl
  have HR := mkHid hr
  clear hr
  by_cases h0 : z < 0
  · have HE : Hid (r = true) := HR.out.2 (.inl h0)
    go_enter Tryz.func56, Tryz.ntmps56
    go_wp2
    go_ret
    exact ⟨retb HE.out.symm, rfl⟩
  · by_cases h1 : md ≤ z
    · have HE : Hid (r = true) := HR.out.2 (.inr h1)
      have hd : decide (md ≤ z) = true := decide_eq_true h1
      go_enter Tryz.func56, Tryz.ntmps56
      go_wp2
      go_ret
      exact ⟨retb HE.out.symm, rfl⟩
    · have HE : Hid (r = false) := by
        cases r with
        | false => rfl
        | true => have := HR.out.1 rfl; omega
      have hd : decide (md ≤ z) = false := decide_eq_false h1
      go_enter Tryz.func56, Tryz.ntmps56
      go_wp2
      go_ret
      exact ⟨retb HE.out.symm, rfl⟩
/-- rests modulo md -/
def Rts (md : Int) (zs : List Int) : Prop := ∀ z ∈ zs, 0 ≤ z ∧ z < md
set_option maxHeartbeats 1000000 in
theorem nindexFunc_at (md : Int) (B : Nat) (k b : Int) (no co : Option Addr) (n c o d : Nat) (ao : Option Addr) (len cap : Nat) (zs : List Int) (w : World) (hR : Rb w B (nrA k b md no co n c o d) 44) (h : RdZ w ao len cap zs) :
    Calls Tryz.prog 81 #[.slice ao len cap, .func (.func 56) #[] #[.pointer (some ⟨B, 0, none⟩)]] w fun e w' => ∃ r : Int, e = .returned (.int .i64 r) ∧ (Rts md zs → r = -1) ∧ (¬ Rts md zs → 0 ≤ r) ∧ w = w' := by
  have hcap := h.lecap
  have hmax := h.lemax
  have HL : Hid (zs.length = len) := h.eqlen
  have NR : Hid (∀ z r, (r = true ↔ z < 0 ∨ md ≤ z) → Calls Tryz.prog 56 #[.int .i64 z, .pointer (some ⟨B, 0, none⟩)] w fun e w' => e = .returned (.bool r) ∧ w = w') := fun z r hr => noRest_at z md B k b no co n c o d w hR r hr
  clear hR
  go_enter Tryz.func81, Tryz.ntmps81
  go_wp2
  go_loop [8] (fun i => ∃ k : Nat, k ≤ len ∧ i = .int .i64 k ∧ Hid (∀ j, j < k → 0 ≤ zs.getD j 0 ∧ zs.getD j 0 < md)) (fun i => len - (intOf i).toNat)
  case atStart => exact ⟨0, Nat.zero_le _, rfl, fun j hj => absurd hj (by omega)⟩
  case round =>
    obtain ⟨k, hk, rfl, hall⟩ := hrel
    by_cases hlt : k < len
    · obtain ⟨b, off, rfl, hc⟩ := h.cell k hlt
      by_cases hd : 0 ≤ zs.getD k 0 ∧ zs.getD k 0 < md
      · have HD : Hid (0 ≤ zs.getD k 0 ∧ zs.getD k 0 < md) := hd
        have N1 := mkHid (NR.out (zs.getD k 0) false ⟨fun e => by (cases e), fun e => by omega⟩)
        clear hd
        go_wp2_with (fail)
        refine N1.out.mono ?_
        rintro e w' ⟨rfl, rfl⟩
        go_wp2_with (fail)
        go_round
        case rel =>
          refine ⟨k + 1, by omega, by go_num, fun j hj => ?_⟩
          rcases Nat.lt_succ_iff_lt_or_eq.1 hj with hj | rfl
          · exact hall.out j hj
          · exact HD.out
        case measure => simp [intOf]; omega
      · have HB : Hid (¬ Rts md zs) := fun hb => hd (by rw [getD_of (by rw [HL.out]; exact hlt)]; exact hb _ (List.getElem_mem _))
        have N1 := mkHid (NR.out (zs.getD k 0) true ⟨fun _ => by omega, fun _ => rfl⟩)
        clear hd
        go_wp2_with (fail)
        refine N1.out.mono ?_
        rintro e w' ⟨rfl, rfl⟩
        go_wp2_with (fail)
        go_ret
        exact ⟨_, rfl, fun hb => absurd hb HB.out, fun _ => by omega, rfl⟩
    · obtain rfl : k = len := by omega
      have HB : Hid (Rts md zs) := by
        intro z hz
        obtain ⟨i, hi, rfl⟩ := List.getElem_of_mem hz
        have := hall.out i (by rw [← HL.out]; exact hi)
        rwa [getD_of hi] at this
      go_wp2
      go_ret
      exact ⟨_, rfl, fun _ => rfl, fun hb => absurd HB.out hb, rfl⟩
theorem ncontainsFunc_at (md : Int) (B : Nat) (k b : Int) (no co : Option Addr) (n c o d : Nat) (ao : Option Addr) (len cap : Nat) (zs : List Int) (r : Bool) (w : World) (hR : Rb w B (nrA k b md no co n c o d) 44) (h : RdZ w ao len cap zs) (hr : r = false ↔ Rts md zs) :
    Calls Tryz.prog 57 #[.slice ao len cap, .func (.func 56) #[] #[.pointer (some ⟨B, 0, none⟩)]] w fun e w' => e = .returned (.bool r) ∧ w = w' := by
  have IX := mkHid (nindexFunc_at md B k b no co n c o d ao len cap zs w hR h)
  cases r with
  | false =>
    have HB : Hid (Rts md zs) := hr.1 rfl
    clear hr
    go_enter Tryz.func57, Tryz.ntmps57
    go_wp2_with (fail)
    refine IX.out.mono ?_
    rintro e w' ⟨r, rfl, h1, -, rfl⟩
    obtain rfl := h1 HB.out
    go_wp2_with (fail)
    go_ret
    exact ⟨rfl, rfl⟩
  | true =>
    have HB : Hid (¬ Rts md zs) := fun hb => by have := hr.2 hb; cases this
    clear hr
    go_enter Tryz.func57, Tryz.ntmps57
    go_wp2_with (fail)
    refine IX.out.mono ?_
    rintro e w' ⟨r, rfl, -, h1, rfl⟩
    have h2 := h1 HB.out
    clear h1
    go_wp2_with (fail)
    go_ret
    exact ⟨rfl, rfl⟩
/-- kind and modulus stand right -/
def MFit (k b md : Int) (zs : List Int) : Prop := ((k = 0 ∨ k = 1) ∧ md = 0) ∨ (k = 2 ∧ 1 ≤ md ∧ (0 ≤ b ∧ b < md) ∧ Rts md zs)
set_option maxHeartbeats 2000000 in
theorem modulusFits_at (k b md : Int) (no co : Option Addr) (n c o d : Nat) (zs : List Int) (r : Bool) (w : World) (h : RdZ w co o d zs) (hr : r = true ↔ MFit k b md zs) :
    Calls Tryz.prog 31 #[nrV k b md no co n c o d] w fun e w' => e = .returned (.bool r) ∧ Below w.heap.size w w' := by
  have hR1 := rb_new w (nrA k b md no co n c o d) 44
  have hB1 := bal w (.cells (nrA k b md no co n c o d) 44)
  have CF : Hid (∀ r, (r = false ↔ Rts md zs) → Calls Tryz.prog 57 #[.slice co o d, .func (.func 56) #[] #[.pointer (some ⟨w.heap.size, 0, none⟩)]] (w.alloc (.cells (nrA k b md no co n c o d) 44)) fun e w' => e = .returned (.bool r) ∧ (w.alloc (.cells (nrA k b md no co n c o d) 44)) = w') := fun r hr => ncontainsFunc_at md w.heap.size k b no co n c o d co o d zs r _ hR1 (h.below (Nat.le_refl _) hB1) hr
  have NR : Hid (∀ r, (r = true ↔ b < 0 ∨ md ≤ b) → Calls Tryz.prog 56 #[.int .i64 b, .pointer (some ⟨w.heap.size, 0, none⟩)] (w.alloc (.cells (nrA k b md no co n c o d) 44)) fun e w' => e = .returned (.bool r) ∧ (w.alloc (.cells (nrA k b md no co n c o d) 44)) = w') := fun r hr => noRest_at b md w.heap.size k b no co n c o d _ hR1 r hr
  have HR := mkHid hr
  clear hr h hR1
  by_cases hk : k = 0 ∨ k = 1
  · by_cases hm : md = 0
    · have HE : Hid (r = true) := HR.out.2 (.inl ⟨hk, hm⟩)
      subst hm
      rcases hk with rfl | rfl
      all_goals
        go_enter Tryz.func31, Tryz.ntmps31
        go_wp2
        go_ret
        exact ⟨retb HE.out.symm, hB1⟩
    · have HE : Hid (r = false) := by
        cases r with
        | false => rfl
        | true =>
          rcases HR.out.1 rfl with ⟨-, h⟩ | ⟨h, -⟩
          · exact absurd h hm
          · omega
      have hd : (md == 0) = false := by rw [beq_eq_false_iff_ne]; exact hm
      clear HR hm
      rcases hk with rfl | rfl
      all_goals
        go_enter Tryz.func31, Tryz.ntmps31
        go_wp2
        go_ret
        exact ⟨retb HE.out.symm, hB1⟩
  · by_cases hk2 : k = 2
    · subst hk2
      have HNF : Hid (¬ (1 ≤ md ∧ (0 ≤ b ∧ b < md) ∧ Rts md zs) → r = false) := fun h => by
        cases r with
        | false => rfl
        | true =>
          rcases HR.out.1 rfl with ⟨h', -⟩ | ⟨-, h'⟩
          · omega
          · exact absurd h' h
      by_cases hm : 1 ≤ md
      · have hd1 : decide (1 ≤ md) = true := decide_eq_true hm
        by_cases hb : 0 ≤ b ∧ b < md
        · have N1 := mkHid (NR.out false ⟨fun e => by (cases e), fun e => by omega⟩)
          by_cases hz : Rts md zs
          · have HE : Hid (r = true) := HR.out.2 (.inr ⟨rfl, hm, hb, hz⟩)
            have C1 := mkHid (CF.out false ⟨fun _ => hz, fun _ => rfl⟩)
            clear HR HNF NR CF hz
            go_enter Tryz.func31, Tryz.ntmps31
            go_wp2_with (fail)
            refine N1.out.mono ?_
            rintro e w' ⟨rfl, rfl⟩
            go_wp2_with (fail)
            refine C1.out.mono ?_
            rintro e w' ⟨rfl, rfl⟩
            go_wp2_with (fail)
            go_ret
            exact ⟨retb HE.out.symm, hB1⟩
          · have HE : Hid (r = false) := HNF.out (fun h => hz h.2.2)
            have C1 := mkHid (CF.out true ⟨fun e => by (cases e), fun e => absurd e hz⟩)
            clear HR HNF NR CF hz
            go_enter Tryz.func31, Tryz.ntmps31
            go_wp2_with (fail)
            refine N1.out.mono ?_
            rintro e w' ⟨rfl, rfl⟩
            go_wp2_with (fail)
            refine C1.out.mono ?_
            rintro e w' ⟨rfl, rfl⟩
            go_wp2_with (fail)
            go_ret
            exact ⟨retb HE.out.symm, hB1⟩
        · have HE : Hid (r = false) := HNF.out (fun h => hb h.2.1)
          have N1 := mkHid (NR.out true ⟨fun _ => by omega, fun _ => rfl⟩)
          clear HR HNF NR CF hb
          go_enter Tryz.func31, Tryz.ntmps31
          go_wp2_with (fail)
          refine N1.out.mono ?_
          rintro e w' ⟨rfl, rfl⟩
          go_wp2_with (fail)
          go_ret
          exact ⟨retb HE.out.symm, hB1⟩
      · have HE : Hid (r = false) := HNF.out (fun h => hm h.1)
        have hd1 : decide (1 ≤ md) = false := decide_eq_false hm
        clear HR HNF NR CF
        go_enter Tryz.func31, Tryz.ntmps31
        go_wp2_with (fail)
        go_ret
        exact ⟨retb HE.out.symm, hB1⟩
    · have HE : Hid (r = false) := by
        cases r with
        | false => rfl
        | true =>
          rcases HR.out.1 rfl with ⟨h', -⟩ | ⟨h', -⟩
          · exact absurd h' hk
          · exact absurd h' hk2
      have e0 : (k == 0) = false := by rw [beq_eq_false_iff_ne]; omega
      have e1 : (k == 1) = false := by rw [beq_eq_false_iff_ne]; omega
      have e2 : (k == 2) = false := by rw [beq_eq_false_iff_ne]; omega
      clear HR NR CF hk hk2
      go_enter Tryz.func31, Tryz.ntmps31
      go_wp2_with (fail)
      go_ret
      exact ⟨retb HE.out.symm, hB1⟩
theorem nrOk_iff (n : Nr) : nrOk n ↔ n.cs.length = n.ns.length ∧ Rise n.ns ∧ MFit n.kd n.bd n.md n.cs ∧ tight n := by
  unfold nrOk MFit Rts
  constructor
  · rintro ⟨hk, hr, hl, ht, h1, h2⟩
    refine ⟨hl, hr, ?_, ht⟩
    rcases hk with h | h | h
    · exact .inl ⟨.inl h, h1 (by omega)⟩
    · exact .inl ⟨.inr h, h1 (by omega)⟩
    · obtain ⟨a, b, c, d⟩ := h2 h
      exact .inr ⟨h, a, ⟨b, c⟩, d⟩
  · rintro ⟨hl, hr, hm, ht⟩
    rcases hm with ⟨hk, h⟩ | ⟨hk, a, ⟨b, c⟩, d⟩
    · exact ⟨by omega, hr, hl, ht, fun _ => h, fun e => by omega⟩
    · exact ⟨by omega, hr, hl, ht, fun e => absurd hk e, fun _ => ⟨a, b, c, d⟩⟩
end Go.Proofs.YtiapkblebbcfbaaGreat.Gl
