/- The program's Rises, isNoName, Index; slices.IndexFunc and ContainsFunc at isNoName. -/
import Derived.Test.YtiihabecncnbcaaGlI
import Derived.Test.YtiihabecncnbcaaGlM
namespace Go.Proofs.Ytiihabecncnbcaa.Gl
open Go.RowKit
set_option linter.unusedVariables false

theorem pname_yes (s : ByteArray) (w : World) (hs : s.size ≤ 9223372036854775807) (h : IsName s) : Calls Try.prog 22 #[.string s] w fun e w' => e = .returned (.bool true) ∧ Below w.heap.size w w' := name_at s true w hs ⟨fun _ => h, fun _ => rfl⟩
theorem pname_not (s : ByteArray) (w : World) (hs : s.size ≤ 9223372036854775807) (h : ¬ IsName s) : Calls Try.prog 22 #[.string s] w fun e w' => e = .returned (.bool false) ∧ Below w.heap.size w w' := name_at s false w hs ⟨fun e => (by cases e), fun e => absurd e h⟩
set_option maxHeartbeats 4000000 in
theorem rises_at (ao : Option Addr) (n c : Nat) (T : List ByteArray) (b : Bool) (w : World) (h : RdS w ao n c T) (hT : Short T) (hb : b = true ↔ Rise T) :
    Calls Try.prog 24 #[.slice ao n c] w fun e w' => e = .returned (.bool b) ∧ Below w.heap.size w w' := by
  have hcn := h.lecap
  have hcx := h.lemax
  have HT : Hid (T.length = n) := h.eqlen
  have HB : Hid (b = true ↔ Rise T) := hb
  have HSh : Hid (Short T) := hT
  clear hb hT
  go_enter Try.func24, Try.ntmps24
  go_wp2
  go_loopw [7] (fun i wr => ∃ k : Nat, k ≤ n ∧ i = .int .i64 k ∧ Hid (∀ j, j < k → RiseAt T j) ∧ Below w.heap.size w wr) (fun i _ => n - (intOf i).toNat)
  case atStart => exact ⟨0, Nat.zero_le _, rfl, fun j hj => absurd hj (by omega), Below.refl _ _⟩
  case round =>
    obtain ⟨k, hk, rfl, hall, hB⟩ := hrel
    by_cases hlt : k < n
    · obtain ⟨g, o, rfl, hc0⟩ := h.cell k hlt
      have hgl := World.block_lt_of_cell? _ _ hc0
      have hc := (hB.cell (p := ⟨g, o + k, none⟩) hgl).trans hc0
      have HNO : Hid (¬ RiseAt T k → b = false) := fun hn => by
        cases b with
        | false => rfl
        | true => exact absurd (HB.out.1 rfl k (by rw [HT.out]; exact hlt)) hn
      have hxs := HSh.out.get (i := k) (by rw [HT.out]; exact hlt)
      by_cases hnm : IsName (T.getD k emp)
      · have NM : Hid (∀ w, Calls Try.prog 22 #[.string (T.getD k emp)] w fun e w' => e = .returned (.bool true) ∧ Below w.heap.size w w') := fun w => pname_yes _ w hxs hnm
        rcases Nat.eq_zero_or_pos k with hkz | hkp
        · have HY : Hid (RiseAt T k) := ⟨hnm, fun h => by omega⟩
          subst hkz
          simp only [Nat.add_zero] at hc hc0
          clear hnm hxs HNO
          generalize hx : T.getD 0 emp = x at *
          clear hx
          go_wp2_with (go_at_call 22; refine (NM.out _).mono ?_; rintro e w2 ⟨rfl, hB2⟩)
          go_roundw
          case rel =>
            refine ⟨0 + 1, by omega, by go_num, fun j hj => ?_, hB.trans (hB2.mono hB.size)⟩
            obtain rfl : j = 0 := by omega
            exact HY.out
          case measure => simp [intOf]; omega
        · obtain ⟨q, hq1, hq2⟩ : ∃ q, q + 1 ≤ k ∧ k ≤ q + 1 := ⟨k - 1, by omega, by omega⟩
          have hkq : k - 1 = q := by omega
          obtain ⟨g', o', e', hd0⟩ := h.cell q (by omega)
          obtain ⟨rfl, rfl⟩ : g = g' ∧ o = o' := by simpa using e'
          have hd := (hB.cell (p := ⟨g, o + q, none⟩) hgl).trans hd0
          have i1 : (k : Int) - 1 = (q : Int) := by omega
          have i2 : IntKind.i64.wrap (q : Int) = (q : Int) := wrap_nat (by omega)
          have i3 : (0 : Int) ≤ (q : Int) := by omega
          have i4 : (q : Int) < (n : Int) := by omega
          have hdec : decide ((0 : Int) < (k : Int)) = true := decide_eq_true (by omega)
          have hdec2 : decide (0 < k) = true := decide_eq_true hkp
          have HR : Hid (ltS (T.getD q emp) (T.getD k emp) = true → RiseAt T k) := fun hl => ⟨hnm, fun _ => by rw [hkq]; exact hl⟩
          have HN2 : Hid (ltS (T.getD q emp) (T.getD k emp) = false → b = false) := fun hl => HNO.out (fun hr => by have := hr.2 (by omega); rw [hkq, hl] at this; cases this)
          clear hnm hxs HNO e' hkq
          generalize hx : T.getD k emp = x at *
          generalize hy : T.getD q emp = y at *
          clear hx hy
          cases hls : ltS y x with
          | true =>
            have HY : Hid (RiseAt T k) := HR.out hls
            have hl2 : Op.bytesLess y.toList x.toList = true := hls
            clear HR HN2 hls
            go_wp2_with (go_at_call 22; refine (NM.out _).mono ?_; rintro e w2 ⟨rfl, hB2⟩; have hBc := hB.trans (hB2.mono hB.size); have hd2 := (hBc.cell (p := ⟨g, o + q, none⟩) hgl).trans hd0)
            go_roundw
            case rel =>
              refine ⟨k + 1, by omega, by go_num, fun j hj => ?_, hBc⟩
              rcases Nat.lt_succ_iff_lt_or_eq.1 hj with hj | rfl
              · exact hall.out j hj
              · exact HY.out
            case measure => simp [intOf]; omega
          | false =>
            have HE : Hid (b = false) := HN2.out hls
            have hl2 : Op.bytesLess y.toList x.toList = false := hls
            clear HR HN2 hls
            go_wp2_with (go_at_call 22; refine (NM.out _).mono ?_; rintro e w2 ⟨rfl, hB2⟩; have hBc := hB.trans (hB2.mono hB.size); have hd2 := (hBc.cell (p := ⟨g, o + q, none⟩) hgl).trans hd0)
            go_ret
            exact ⟨retb HE.out.symm, hBc⟩
      · have HE : Hid (b = false) := HNO.out (fun hr => hnm hr.1)
        have NM : Hid (∀ w, Calls Try.prog 22 #[.string (T.getD k emp)] w fun e w' => e = .returned (.bool false) ∧ Below w.heap.size w w') := fun w => pname_not _ w hxs hnm
        clear hnm hxs HNO
        generalize hx : T.getD k emp = x at *
        clear hx
        go_wp2_with (go_at_call 22; refine (NM.out _).mono ?_; rintro e w2 ⟨rfl, hB2⟩)
        go_ret
        exact ⟨retb HE.out.symm, hB.trans (hB2.mono hB.size)⟩
    · obtain rfl : k = n := by omega
      have HE : Hid (b = true) := HB.out.2 (fun i hi => hall.out i (by rw [HT.out] at hi; exact hi))
      go_wp2
      go_ret
      exact ⟨retb HE.out.symm, hB⟩
set_option maxHeartbeats 1000000 in
theorem sindex_at (ao : Option Addr) (n c : Nat) (T : List ByteArray) (s : ByteArray) (w : World) (h : RdS w ao n c T) :
    Calls Try.prog 79 #[.slice ao n c, .string s] w fun e w' => e = .returned (.int .i64 (idx s T 0)) ∧ Below w.heap.size w w' := by
  have hcn := h.lecap
  have hcx := h.lemax
  have HT : Hid (T.length = n) := h.eqlen
  go_enter Try.func79, Try.ntmps79
  go_wp2
  go_loopw [8] (fun i wr => ∃ k : Nat, k ≤ n ∧ i = .int .i64 k ∧ Hid (idx s T 0 = idx s (T.drop k) k) ∧ Below w.heap.size w wr) (fun i _ => n - (intOf i).toNat)
  case atStart => exact ⟨0, Nat.zero_le _, rfl, rfl, Below.refl _ _⟩
  case round =>
    obtain ⟨k, hk, rfl, hinv, hB⟩ := hrel
    by_cases hlt : k < n
    · obtain ⟨b, off, rfl, hc0⟩ := h.cell k hlt
      have hc := (hB.cell (p := ⟨b, off + k, none⟩) (World.block_lt_of_cell? _ _ hc0)).trans hc0
      have HS : Hid (idx s T 0 = if ((T.getD k emp).toList == s.toList) = true then (k : Int) else idx s (T.drop (k + 1)) ((k + 1 : Nat) : Int)) := hinv.out.trans (idx_step s T k (by rw [HT.out]; exact hlt))
      have hnd := hB.drew
      generalize hx : T.getD k emp = x at *
      clear hx hinv hc0
      cases he : (x.toList == s.toList) with
      | true =>
        have HE : Hid (idx s T 0 = (k : Int)) := by show _ = _; rw [HS.out, if_pos he]
        have he2 : (s.toList == x.toList) = true := by rw [beq_iff_eq] at he ⊢; exact he.symm
        clear HS
        go_wp2
        try go_region
        try go_wp2
        go_ret
        exact ⟨ret1 HE.out.symm, by first | exact hB | exact hnd⟩
      | false =>
        have HE : Hid (idx s T 0 = idx s (T.drop (k + 1)) ((k + 1 : Nat) : Int)) := by show _ = _; rw [HS.out, he, if_neg (by simp)]
        have he2 : (s.toList == x.toList) = false := by
          cases hq : (s.toList == x.toList) with
          | false => rfl
          | true => rw [beq_iff_eq] at hq; rw [hq] at he; simp at he
        clear HS
        go_wp2
        try go_region
        try go_wp2
        go_roundw
        case rel => exact ⟨k + 1, by omega, by go_num, HE, by first | exact hB | exact hnd⟩
        case measure => simp [intOf]; omega
    · obtain rfl : k = n := by omega
      have HE : Hid (idx s T 0 = -1) := by
        show _ = _
        rw [hinv.out, List.drop_of_length_le (by rw [HT.out]; exact Nat.le_refl _)]; rfl
      go_wp2
      go_ret
      exact ⟨ret1 HE.out.symm, hB⟩
theorem index_at (ao : Option Addr) (n c : Nat) (T : List ByteArray) (s : ByteArray) (w : World) (h : RdS w ao n c T) :
    Calls Try.prog 58 #[.slice ao n c, .string s] w fun e w' => e = .returned (.int .i64 (idx s T 0)) ∧ Below w.heap.size w w' := by
  obtain ⟨z, hz⟩ : ∃ z, idx s T 0 = z := ⟨_, rfl⟩
  have K : Hid (Calls Try.prog 79 #[.slice ao n c, .string s] w fun e w' => e = .returned (.int .i64 z) ∧ Below w.heap.size w w') := by rw [← hz]; exact sindex_at ao n c T s w h
  rw [hz]
  clear hz
  go_enter Try.func58, Try.ntmps58
  go_wp2_with (go_at_call 79; refine K.out.mono ?_; rintro e w2 ⟨rfl, hB2⟩)
  go_ret
  exact ⟨rfl, hB2⟩
end Go.Proofs.Ytiihabecncnbcaa.Gl
