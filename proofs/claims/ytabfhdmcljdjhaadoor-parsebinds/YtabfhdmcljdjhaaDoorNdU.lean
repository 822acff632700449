/- Equal, at nodes. -/
import Derived.Test.YtabfhdmcljdjhaaDoorNdQ
import Derived.Laws.StructEq
namespace Go.Proofs.YtabfhdmcljdjhaaDoor.Gl
open Go.RowKit Go.Shelf
set_option linter.unusedVariables false

/-- a slice that reads as nodes -/
def RdN (w : World) (ao : Option Addr) (n c : Nat) (L : List Nd) : Prop := L.length = n ∧ n ≤ c ∧ c ≤ 9223372036854775807 ∧ ∀ j (hj : j < L.length), ∃ g, ao = some ⟨g, 0, none⟩ ∧ ∀ i v, (ndC L[j])[i]? = some v → w.cell? ⟨g, j * 8 + i, none⟩ = some v
theorem ndL_get (L : List Nd) (j : Nat) (hj : j < L.length) (i : Nat) (hi : i < 8) : (ndL L)[j * 8 + i]? = (ndC L[j])[i]? := by
  induction L generalizing j with
  | nil => simp at hj
  | cons x r ih =>
    have e : ndL (x :: r) = (ndC x).toList ++ ndL r := by simp [ndL]
    rw [e]
    cases j with
    | zero =>
      rw [List.getElem?_append_left (by simp; omega)]
      simp
    | succ j =>
      rw [List.getElem?_append_right (by simp; omega), show (j + 1) * 8 + i - (ndC x).toList.length = j * 8 + i by simp; omega]
      exact ih j (by simpa using hj)
theorem rdn_of {w : World} {base : Nat} {v : Value} {L : List Nd} (h : w.ownsRow base 56 8 v L.length (ndL L)) : ∃ ao c, v = .slice ao L.length c ∧ RdN w ao L.length c L := by
  obtain ⟨hl, hv⟩ := h
  rcases hv with ⟨rfl, hn⟩ | ⟨g, cap, cur, rfl, hg, hh, hnc, hcm, hcs, hx⟩
  · exact ⟨none, 0, by rw [hn], rfl, by omega, by omega, fun j hj => by omega⟩
  · refine ⟨some ⟨g, 0, none⟩, cap, rfl, rfl, hnc, by unfold maxLen at hcm; omega, fun j hj => ⟨g, rfl, fun i v hv => ?_⟩⟩
    have hi : i < 8 := by
      have := (Array.getElem?_eq_some_iff.1 hv).1
      simpa using this
    refine cells_at hh (j * 8 + i) v ?_
    rw [← ndL_get L j hj i hi, ← hx, List.getElem?_take_of_lt (by omega), Array.getElem?_toList] at hv
    exact hv
theorem RdN.keep {w w' : World} {ao : Option Addr} {n c : Nat} {L : List Nd} (h : RdN w ao n c L) (hb : Below w.heap.size w w') : RdN w' ao n c L :=
  ⟨h.1, h.2.1, h.2.2.1, fun j hj => by
    obtain ⟨g, hg, hc⟩ := h.2.2.2 j hj
    exact ⟨g, hg, fun i v hv => (hb.cell (World.block_lt_of_cell? _ _ (hc i v hv))).trans (hc i v hv)⟩⟩
set_option maxRecDepth 100000 in
set_option maxHeartbeats 8000000 in
theorem equal_at (ao bo : Option Addr) (n c m c' : Nat) (L M : List Nd) (r : Bool) (w : World) (hL : RdN w ao n c L) (hM : RdN w bo m c' M) (hr : r = true ↔ L = M) :
    Calls Tryd.prog 15 #[.slice ao n c, .slice bo m c'] w fun e w' => e = .returned (.bool r) ∧ Below w.heap.size w w' := by
  have HR : Hid (r = true ↔ L = M) := hr
  have HL : Hid (RdN w ao n c L) := hL
  have HM : Hid (RdN w bo m c' M) := hM
  have hnc := hL.2.1
  have hcx := hL.2.2.1
  have hmc := hM.2.1
  have hmx := hM.2.2.1
  have HLn : Hid (L.length = n) := hL.1
  have HMn : Hid (M.length = m) := hM.1
  clear hr hL hM
  by_cases hnm : n = m
  · subst hnm
    go_enter Tryd.func15, Tryd.ntmps15
    go_wp2
    go_loopw [13] (fun i wr => ∃ j : Nat, j ≤ n ∧ i = .int .i64 j ∧ Hid (L.take j = M.take j) ∧ Below w.heap.size w wr) (fun i _ => n - (intOf i).toNat)
    case atStart => exact ⟨0, Nat.zero_le _, rfl, by show _ = _; simp, Below.refl _ _⟩
    case round =>
      obtain ⟨j, hj, rfl, hall, hnx⟩ := hrel
      by_cases hlt : j < n
      · have hjL : j < L.length := by rw [HLn.out]; exact hlt
        have hjM : j < M.length := by rw [HMn.out]; exact hlt
        obtain ⟨g, rfl, hg⟩ := HL.out.2.2.2 j hjL
        obtain ⟨g', rfl, hg'⟩ := HM.out.2.2.2 j hjM
        have hnd := hnx.drew
        have HN : Hid (L[j] = M[j] → L.take (j + 1) = M.take (j + 1)) := fun e => by rw [List.take_succ_eq_append_getElem hjL, List.take_succ_eq_append_getElem hjM, hall.out, e]
        have HD : Hid (L[j] ≠ M[j] → r = false) := fun e => by
          cases r with
          | false => rfl
          | true => exact absurd (by have := HR.out.1 rfl; subst this; rfl) e
        obtain ⟨X, hX⟩ : ∃ X, L[j] = X := ⟨_, rfl⟩
        obtain ⟨Y, hY⟩ : ∃ Y, M[j] = Y := ⟨_, rfl⟩
        rw [hX] at hg HN HD
        rw [hY] at hg' HN HD
        obtain ⟨dp1, isT1, op1, top1, name1, num1, terms1, args1⟩ := X
        obtain ⟨dp2, isT2, op2, top2, name2, num2, terms2, args2⟩ := Y
        have a0 : wr.cell? ⟨g, j * 8, none⟩ = some (.int .i64 dp1) := by have q := hg 0 _ rfl; exact (hnx.cell (World.block_lt_of_cell? _ _ q)).trans q
        have a1 : wr.cell? ⟨g, j * 8 + 1, none⟩ = some (.bool isT1) := by have q := hg 1 _ rfl; exact (hnx.cell (World.block_lt_of_cell? _ _ q)).trans q
        have a2 : wr.cell? ⟨g, j * 8 + 2, none⟩ = some (.int .i64 op1) := by have q := hg 2 _ rfl; exact (hnx.cell (World.block_lt_of_cell? _ _ q)).trans q
        have a3 : wr.cell? ⟨g, j * 8 + 3, none⟩ = some (.int .i64 top1) := by have q := hg 3 _ rfl; exact (hnx.cell (World.block_lt_of_cell? _ _ q)).trans q
        have a4 : wr.cell? ⟨g, j * 8 + 4, none⟩ = some (.string name1) := by have q := hg 4 _ rfl; exact (hnx.cell (World.block_lt_of_cell? _ _ q)).trans q
        have a5 : wr.cell? ⟨g, j * 8 + 5, none⟩ = some (.int .i64 num1) := by have q := hg 5 _ rfl; exact (hnx.cell (World.block_lt_of_cell? _ _ q)).trans q
        have a6 : wr.cell? ⟨g, j * 8 + 6, none⟩ = some (.int .i64 (terms1 : Nat)) := by have q := hg 6 _ rfl; exact (hnx.cell (World.block_lt_of_cell? _ _ q)).trans q
        have a7 : wr.cell? ⟨g, j * 8 + 7, none⟩ = some (.int .i64 (args1 : Nat)) := by have q := hg 7 _ rfl; exact (hnx.cell (World.block_lt_of_cell? _ _ q)).trans q
        have b0 : wr.cell? ⟨g', j * 8, none⟩ = some (.int .i64 dp2) := by have q := hg' 0 _ rfl; exact (hnx.cell (World.block_lt_of_cell? _ _ q)).trans q
        have b1 : wr.cell? ⟨g', j * 8 + 1, none⟩ = some (.bool isT2) := by have q := hg' 1 _ rfl; exact (hnx.cell (World.block_lt_of_cell? _ _ q)).trans q
        have b2 : wr.cell? ⟨g', j * 8 + 2, none⟩ = some (.int .i64 op2) := by have q := hg' 2 _ rfl; exact (hnx.cell (World.block_lt_of_cell? _ _ q)).trans q
        have b3 : wr.cell? ⟨g', j * 8 + 3, none⟩ = some (.int .i64 top2) := by have q := hg' 3 _ rfl; exact (hnx.cell (World.block_lt_of_cell? _ _ q)).trans q
        have b4 : wr.cell? ⟨g', j * 8 + 4, none⟩ = some (.string name2) := by have q := hg' 4 _ rfl; exact (hnx.cell (World.block_lt_of_cell? _ _ q)).trans q
        have b5 : wr.cell? ⟨g', j * 8 + 5, none⟩ = some (.int .i64 num2) := by have q := hg' 5 _ rfl; exact (hnx.cell (World.block_lt_of_cell? _ _ q)).trans q
        have b6 : wr.cell? ⟨g', j * 8 + 6, none⟩ = some (.int .i64 (terms2 : Nat)) := by have q := hg' 6 _ rfl; exact (hnx.cell (World.block_lt_of_cell? _ _ q)).trans q
        have b7 : wr.cell? ⟨g', j * 8 + 7, none⟩ = some (.int .i64 (args2 : Nat)) := by have q := hg' 7 _ rfl; exact (hnx.cell (World.block_lt_of_cell? _ _ q)).trans q
        clear hX hY hg hg' HL HM HR hall
        by_cases h0 : dp1 = dp2
        · subst h0
          by_cases h1 : isT1 = isT2
          · subst h1
            by_cases h2 : op1 = op2
            · subst h2
              by_cases h3 : top1 = top2
              · subst h3
                by_cases h4 : name1 = name2
                · subst h4
                  by_cases h5 : num1 = num2
                  · subst h5
                    by_cases h6 : terms1 = terms2
                    · subst h6
                      by_cases h7 : args1 = args2
                      · subst h7
                        have hs : (name1.toList == name1.toList) = true := (eqS_iff _ _).2 rfl
                        have HT : Hid (L.take (j + 1) = M.take (j + 1)) := HN.out rfl
                        go_wp2
                        go_region
                        go_wp2
                        go_roundw
                        case rel => exact ⟨j + 1, by omega, by go_num, HT, hnd⟩
                        case measure => simp [intOf]; omega
                      · have HE : Hid (r = false) := HD.out (fun e => h7 (by cases e; rfl))
                        have h72 : ¬ (args1 : Int) = (args2 : Int) := by omega
                        have h73 : ((args1 : Int) == (args2 : Int)) = false := by rw [beq_eq_false_iff_ne]; omega
                        have hs : (name1.toList == name1.toList) = true := (eqS_iff _ _).2 rfl
                        go_wp2
                        go_region
                        go_wp2
                        go_ret
                        exact ⟨retb HE.out.symm, hnd⟩
                    · have HE : Hid (r = false) := HD.out (fun e => h6 (by cases e; rfl))
                      have h62 : ¬ (terms1 : Int) = (terms2 : Int) := by omega
                      have h63 : ((terms1 : Int) == (terms2 : Int)) = false := by rw [beq_eq_false_iff_ne]; omega
                      have hs : (name1.toList == name1.toList) = true := (eqS_iff _ _).2 rfl
                      go_wp2
                      go_region
                      go_wp2
                      go_ret
                      exact ⟨retb HE.out.symm, hnd⟩
                  · have HE : Hid (r = false) := HD.out (fun e => h5 (by cases e; rfl))
                    have h52 : (num1 == num2) = false := by simpa using h5
                    have hs : (name1.toList == name1.toList) = true := (eqS_iff _ _).2 rfl
                    go_wp2
                    go_region
                    go_wp2
                    go_ret
                    exact ⟨retb HE.out.symm, hnd⟩
                · have HE : Hid (r = false) := HD.out (fun e => h4 (by cases e; rfl))
                  have h42 : (name1.toList == name2.toList) = false := by cases hq : (name1.toList == name2.toList) with
                    | false => rfl
                    | true => exact absurd ((eqS_iff _ _).1 hq) h4
                  go_wp2
                  go_region
                  go_wp2
                  go_ret
                  exact ⟨retb HE.out.symm, hnd⟩
              · have HE : Hid (r = false) := HD.out (fun e => h3 (by cases e; rfl))
                have h32 : (top1 == top2) = false := by simpa using h3
                go_wp2
                go_region
                go_wp2
                go_ret
                exact ⟨retb HE.out.symm, hnd⟩
            · have HE : Hid (r = false) := HD.out (fun e => h2 (by cases e; rfl))
              have h22 : (op1 == op2) = false := by simpa using h2
              go_wp2
              go_region
              go_wp2
              go_ret
              exact ⟨retb HE.out.symm, hnd⟩
          · have HE : Hid (r = false) := HD.out (fun e => h1 (by cases e; rfl))
            have h12 : (isT1 == isT2) = false := by simpa using h1
            go_wp2
            go_region
            go_wp2
            go_ret
            exact ⟨retb HE.out.symm, hnd⟩
        · have HE : Hid (r = false) := HD.out (fun e => h0 (by cases e; rfl))
          have h02 : (dp1 == dp2) = false := by simpa using h0
          go_wp2
          go_region
          go_wp2
          go_ret
          exact ⟨retb HE.out.symm, hnd⟩
      · obtain rfl : j = n := by omega
        have HE : Hid (r = true) := HR.out.2 (by have := hall.out; rw [List.take_of_length_le (by rw [HLn.out]; exact Nat.le_refl _), List.take_of_length_le (by rw [HMn.out]; exact Nat.le_refl _)] at this; exact this)
        go_wp2
        go_ret
        exact ⟨retb HE.out.symm, hnx⟩
  · have HE : Hid (r = false) := by
      cases r with
      | false => rfl
      | true => exact absurd (by rw [← HLn.out, HR.out.1 rfl, HMn.out]) hnm
    have hnm' : ¬ (n : Int) = (m : Int) := by omega
    have hB0 := Below.refl w.heap.size w
    go_enter Tryd.func15, Tryd.ntmps15
    go_wp2
    go_ret
    exact ⟨retb HE.out.symm, hB0⟩
end Go.Proofs.YtabfhdmcljdjhaaDoor.Gl
