/- The law's own filled. -/
import Derived.Test.YtholafecbmhhhaaBitL
import Derived.Test.YtholafecbmhhhaaRowIn
import Derived.Test.YtholafecbmhhhaaFixed
namespace Go.Proofs.Ytholafecbmhhhaa.Dg
open Go.RowKit
set_option linter.unusedVariables false

theorem Bs.grown {w w' : World} {p g n m b : Nat} {C : List Nat} (h : Bs w p g n m C) (hG : w.grownBy w' (some b)) (hp : p ≠ b) (hg : g ≠ b) : Bs w' p g n m C :=
  h.frame (hG.block p h.plt (fun e => hp (by injection e))) (hG.block g h.glt (fun e => hg (by injection e)))
theorem rest_in (z : Int) (n : Nat) (h1 : 1 ≤ n) (h2 : n ≤ 200) : ∃ i : Nat, i < n ∧ wrap64 ((IntKind.u64.wrap z).tmod (n : Int)) = (i : Int) := by
  have h0 : 0 ≤ IntKind.u64.wrap z := by rw [IntKind.wrap_u64]; omega
  rw [Int.tmod_eq_emod_of_nonneg h0]
  have h3 := Int.emod_nonneg (IntKind.u64.wrap z) (show (n : Int) ≠ 0 by omega)
  have h4 := Int.emod_lt_of_pos (IntKind.u64.wrap z) (show 0 < (n : Int) by omega)
  refine ⟨(IntKind.u64.wrap z % (n : Int)).toNat, by omega, ?_⟩
  rw [IntWalk.wrap64_in _ ⟨by omega, by omega⟩]
  omega
set_option maxHeartbeats 1000000 in
theorem filled_at (n m : Nat) (ao : Option Addr) (len cap : Nat) (zs : List Int) (w : World) (h1 : 1 ≤ n) (h2 : n ≤ 200) (hm : m = (n + 63) / 64) (h : RdZ w ao len cap zs) :
    Calls Try.prog 41 #[.int .i64 n, .slice ao len cap] w fun e w' => ∃ p g C, e = .returned (at_p p) ∧ Bs w' p g n m C ∧ w.heap.size ≤ p ∧ w.heap.size ≤ g ∧ Below w.heap.size w w' := by
  have hcap := h.lecap
  have hmax := h.lemax
  have HN : Hid (∀ w : World, Calls Try.prog 10 #[.int .i64 n] w fun e w' => ∃ p g, e = .returned (.tuple #[at_p p, .int .i64 0]) ∧ Bs w' p g n m (List.replicate m 0) ∧ w.heap.size ≤ p ∧ w.heap.size ≤ g ∧ Below w.heap.size w w') := fun w => by
    rw [hm]; exact bnew_in n w (by omega)
  clear hm
  go_enter Try.func41, Try.ntmps41
  go_wp2_with (go_at_call 10; refine (HN.out _).mono ?_; rintro e w1 ⟨p, g, rfl, hS1, hp, hg, hB1⟩)
  have hpl := hS1.plt
  have hgl := hS1.glt
  go_loopw [22] (fun i wr => ∃ k : Nat, k ≤ len ∧ i = .int .i64 k ∧ (∃ C, Bs wr p g n m C) ∧ Below w.heap.size w wr) (fun i _ => len - (intOf i).toNat)
  case atStart => exact ⟨0, Nat.zero_le _, rfl, ⟨_, hS1⟩, hB1⟩
  case round =>
    obtain ⟨k, hk, rfl, ⟨C, hS⟩, hB⟩ := hrel
    by_cases hlt : k < len
    · obtain ⟨b, off, rfl, hc⟩ := (h.below (Nat.le_refl _) hB).cell k hlt
      obtain ⟨i, hi, hmod⟩ := rest_in (zs.getD k 0) n h1 h2
      generalize zs.getD k 0 = z at hc hmod
      have HP : Hid (Calls Try.prog 13 #[at_p p, .int .i64 i] wr fun e w' => e = .returned (.int .i64 0) ∧ Bs w' p g n m (putC C i) ∧ wr.grownBy w' (some g)) := put_in p g n m i C wr hS hi
      go_wp2_with (go_at_call 13; refine HP.out.mono ?_; rintro e w2 ⟨rfl, hS2, hG2⟩)
      exact ⟨⟨k + 1, by omega, by go_num, ⟨_, hS2⟩, below_grown hB hG2 hB.size hg⟩, by simp [intOf]; omega⟩
    · obtain rfl : k = len := by omega
      go_wp2
      go_ret
      exact ⟨p, g, C, rfl, hS, hp, hg, hB⟩
end Go.Proofs.Ytholafecbmhhhaa.Dg
