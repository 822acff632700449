/- Lists of texts: the law's same; the document's Index, put, Together. -/
import Derived.Test.YtdfdbhjgighkpabGlE
import Derived.Laws.Cover1
namespace Go.Proofs.Ytdfdbhjgighkpab.Gl
open Go.RowKit
set_option linter.unusedVariables false

theorem toList_inj {x y : ByteArray} (h : x.toList = y.toList) : x = y := by
  rw [ByteArray.toList_eq, ByteArray.toList_eq] at h
  cases x; cases y
  exact congrArg ByteArray.mk (Array.toList_inj.1 h)
theorem eqS_iff (x y : ByteArray) : (x.toList == y.toList) = true ↔ x = y := by
  rw [beq_iff_eq]
  exact ⟨toList_inj, fun h => by rw [h]⟩
theorem slist_eq {T U : List ByteArray} (n : Nat) (hT : T.length = n) (hU : U.length = n) (h : ∀ j, j < n → T.getD j emp = U.getD j emp) : T = U := by
  apply List.ext_getElem (by rw [hT, hU])
  intro i h1 h2
  have := h i (by omega)
  rwa [sgetD_of h1, sgetD_of h2] at this
set_option maxHeartbeats 2000000 in
theorem same_at (ao ao' : Option Addr) (n c m c' : Nat) (T U : List ByteArray) (r : Bool) (w : World) (h : RdS w ao n c T) (k : RdS w ao' m c' U) (hr : r = true ↔ T = U) :
    Calls Try.prog 6 #[.slice ao n c, .slice ao' m c'] w fun e w' => e = .returned (.bool r) ∧ Below w.heap.size w w' := by
  have hcn := h.lecap
  have hcx := h.lemax
  have hcm := k.lecap
  have hmx := k.lemax
  have HT : Hid (T.length = n) := h.eqlen
  have HU : Hid (U.length = m) := k.eqlen
  have HR : Hid (r = true ↔ T = U) := hr
  clear hr
  by_cases hnm : n = m
  · subst hnm
    go_enter Try.func6, Try.ntmps6
    go_wp2
    go_loopw [13] (fun i wr => ∃ j : Nat, j ≤ n ∧ i = .int .i64 j ∧ Hid (∀ a, a < j → T.getD a emp = U.getD a emp) ∧ Below w.heap.size w wr) (fun i _ => n - (intOf i).toNat)
    case atStart => exact ⟨0, Nat.zero_le _, rfl, fun a ha => absurd ha (by omega), Below.refl _ _⟩
    case round =>
      obtain ⟨j, hj, rfl, hall, hnx⟩ := hrel
      by_cases hlt : j < n
      · obtain ⟨g, o, rfl, hb⟩ := h.cell j hlt
        obtain ⟨g', o', rfl, hc⟩ := k.cell j hlt
        have hb' := (hnx.cell (World.block_lt_of_cell? _ _ hb)).trans hb
        have hc' := (hnx.cell (World.block_lt_of_cell? _ _ hc)).trans hc
        have hnd := hnx.drew
        clear hb hc
        by_cases he : T.getD j emp = U.getD j emp
        · have HE : Hid (T.getD j emp = U.getD j emp) := he
          rw [he] at hb'
          clear he
          obtain ⟨y, hy⟩ : ∃ y, U.getD j emp = y := ⟨_, rfl⟩
          rw [hy] at hb' hc'
          clear hy
          have hyy : (y.toList == y.toList) = true := (eqS_iff y y).2 rfl
          go_wp2
          go_region
          go_wp2
          go_roundw
          case rel =>
            refine ⟨j + 1, by omega, by go_num, fun a ha => ?_, hnd⟩
            rcases Nat.lt_succ_iff_lt_or_eq.1 ha with ha | rfl
            · exact hall.out a ha
            · exact HE.out
          case measure => simp [intOf]; omega
        · have HE : Hid (r = false) := by
            cases r with
            | false => rfl
            | true => exact absurd (by rw [HR.out.1 rfl]) he
          obtain ⟨x, hx⟩ : ∃ x, T.getD j emp = x := ⟨_, rfl⟩
          obtain ⟨y, hy⟩ : ∃ y, U.getD j emp = y := ⟨_, rfl⟩
          rw [hx] at hb' he
          rw [hy] at hc' he
          have hxy : (x.toList == y.toList) = false := by
            cases hq : (x.toList == y.toList) with
            | false => rfl
            | true => exact absurd ((eqS_iff x y).1 hq) he
          clear hx hy he
          go_wp2
          go_region
          go_wp2
          go_ret
          exact ⟨retb HE.out.symm, hnd⟩
      · obtain rfl : j = n := by omega
        have HE : Hid (r = true) := HR.out.2 (slist_eq j HT.out HU.out hall.out)
        go_wp2
        go_ret
        exact ⟨retb HE.out.symm, hnx⟩
  · have HE : Hid (r = false) := by
      cases r with
      | false => rfl
      | true => exact absurd (by rw [← HT.out, HR.out.1 rfl, HU.out]) hnm
    have hnm' : ¬ (n : Int) = (m : Int) := by omega
    have hB0 := Below.refl w.heap.size w
    go_enter Try.func6, Try.ntmps6
    go_wp2
    go_ret
    exact ⟨retb HE.out.symm, hB0⟩
/-- where the name stands first -/
def idx (s : ByteArray) : List ByteArray → Int → Int
  | [], _ => -1
  | x :: l, k => if (x.toList == s.toList) = true then k else idx s l (k + 1)
theorem idx_step (s : ByteArray) (ss : List ByteArray) (k : Nat) (h : k < ss.length) : idx s (ss.drop k) k = if ((ss.getD k emp).toList == s.toList) = true then (k : Int) else idx s (ss.drop (k + 1)) ((k + 1 : Nat) : Int) := by
  rw [List.drop_eq_getElem_cons h, idx, sgetD_of h]; rfl
end Go.Proofs.Ytdfdbhjgighkpab.Gl
