/- Layer 3: the document's Power, Track, Decode. -/
import Derived.Test.YtkanjgphmafjbaaWoH
import Derived.Deep.RegionHeldLaw
import Derived.Deep.RegionLaw
import Derived.Deep.AppendLies
import Derived.Deep.DrawnRows
namespace Go.Proofs.Ytkanjgphmafjbaa.Wo
open Go.RowKit
set_option linter.unusedVariables false
attribute [local go_sem ↓] Go.wp_at_zero Go.wp_at_succ

theorem power_at (t : Nat) (w : World) (ht : t ≤ 6) :
    Calls Try.prog 40 #[.int .i64 t] w fun e w' => e = .returned (.int .i64 (2 ^ t)) ∧ w = w' := by
  go_enter Try.func40, Try.ntmps40
  go_wp2
  go_loop [3, 4] (fun p i => ∃ k : Nat, k ≤ t ∧ i = .int .i64 k ∧ p = .int .i64 (2 ^ k)) (fun _ i => t - (intOf i).toNat)
  case atStart => exact ⟨0, Nat.zero_le _, rfl, rfl⟩
  case round =>
    obtain ⟨k, hk, rfl, rfl⟩ := hrel
    by_cases hlt : k < t
    · obtain ⟨h1, h2⟩ := pow_small (show k ≤ 6 by omega)
      have HS : Hid ((2 : Int) ^ (k + 1) = 2 * 2 ^ k) := pow2_succ k
      generalize hp : (2 : Int) ^ k = P at *
      clear hp
      go_wp2
      go_round
      case rel => exact ⟨k + 1, by omega, by go_num, congrArg (Value.int .i64) (by rw [HS.out]; omega)⟩
      case measure => simp [intOf]; omega
    · obtain rfl : k = t := by omega
      go_wp2
      go_ret
      exact ⟨rfl, rfl⟩

/-- 'out = append(out, d)' at a step of a region that draws its order -/
theorem step_pushZ {ops : Array Oper} {o : Oper} {a : Act} {K : Act → World → Prop} {Q : Exit → Act → World → Prop} {E : Prop} (W0 Wc : World) (B base : Nat) (hgd : o.guard = none) (s x : Operand)
    (ho : o.op = .call { callee := .builtin .append, args := #[s, x], argTypes := #[22, 22] }) (v : Value) (k : Nat) (O : List Int) (hs : a.eval s = v) (g : Nat) (d : Int) (hx : a.eval x = .slice (some ⟨g, 0, none⟩) 1 1)
    (hown : Wc.ownsRow base 3 1 v k (cellsZ O)) (hcell : Wc.cell? ⟨g, 0, none⟩ = some (.int .i64 d)) (hbase : base ≤ Wc.heap.size) (hk : (k + 1) * 8 ≤ 140737488355328) (hbel : Below B W0 Wc) (hB : B ≤ base)
    (h : ∀ g' c' w', w'.ownsRow base 3 1 (.slice (some ⟨g', 0, none⟩) (k + 1) c') (k + 1) (cellsZ (O ++ [d])) → Below B W0 w' → K (a.put o.dst (.slice (some ⟨g', 0, none⟩) (k + 1) c')) w') : if Region.wanted o (yielded ops a.tmps) = true then Oper.wp Try.prog o a Wc K Q else E := by
  obtain ⟨i0, hi, hz0, hz1, hz2⟩ := info_parts Try.infoInt
  refine step_append_lies Wc hgd s x 22 ho base 3 i0 (.int .i64 0) 1 8 Try.underlying22 hi hz0 hz1 hz2 rfl (by decide) v k _ hs hown ⟨g, 0, none⟩ 1 1 [.int .i64 d] hx rfl ?_ ?_ (by decide) (by unfold maxLen; omega) (by omega) hbase _ rfl ?_
  · intro j u hj
    match j, hj with
    | 0, hj => simp at hj; subst hj; simpa [Addr.add] using hcell
  · intro u hu; simp at hu; subst hu; rfl
  · intro g' cap w' h1 h2 _ _
    refine h g' cap w' (by simpa [cellsZ] using h1) (hbel.grown h2 (by omega) ?_)
    intro q hq
    have := hown.lt q hq
    omega
set_option maxHeartbeats 2000000 in
theorem rtrack_at (ao : Option Addr) (n cap : Nat) (zs : List Int) (t K : Nat) (w : World) (h : RdZ w ao n cap zs) (hl : Letters zs K) (hK : K ≤ 6) (hn' : n ≤ 64) (ht : t < K) :
    Calls Try.prog 41 #[.slice ao n cap, .int .i64 t] w fun e w' => ∃ r, e = .returned r ∧ w'.ownsRow w.heap.size 3 1 r n (cellsZ (trk zs t)) ∧ Below w.heap.size w w' := by
  have hcap := h.lecap
  have hmax := h.lemax
  have HL : Hid (zs.length = n) := h.eqlen
  go_enter Try.func41, Try.ntmps41
  go_wp2
  go_loopw [5, 6] (fun o i wr => ∃ k : Nat, k ≤ n ∧ i = .int .i64 k ∧ wr.ownsRow w.heap.size 3 1 o k (cellsZ (trk (zs.take k) t)) ∧ Below w.heap.size w wr) (fun _ i _ => n - (intOf i).toNat)
  case atStart => exact ⟨0, Nat.zero_le _, rfl, World.ownsRow_nil _ _ _ _, Below.refl _ _⟩
  case round =>
    obtain ⟨k, hk, rfl, hO, hB⟩ := hrel
    by_cases hlt : k < n
    · obtain ⟨b, off, rfl, hc⟩ := h.cell k hlt
      have hltb := World.block_lt_of_cell? _ _ hc
      have hx := letters_get hl (i := k) (by rw [HL.out]; exact hlt)
      have hx2 := pow_small hK
      obtain ⟨hx0, hx1⟩ : 0 ≤ zs.getD k 0 ∧ zs.getD k 0 < 64 := by omega
      have HT : Hid (trk (zs.take (k + 1)) t = trk (zs.take k) t ++ [zs.getD k 0 / 2 ^ t % 2]) := trk_take zs t k (by rw [HL.out]; exact hlt)
      obtain ⟨hp1, hp2⟩ := pow_small (show t ≤ 6 by omega)
      have PW : Hid (∀ w, Calls Try.prog 40 #[.int .i64 t] w fun e w' => e = .returned (.int .i64 (2 ^ t)) ∧ w = w') := fun w => power_at t w (by omega)
      have hk0 : (0 : Int) ≤ (k : Int) := by omega
      have hk1 : (k : Int) < (n : Int) := by omega
      clear hx hx2
      generalize hxx : zs.getD k 0 = x at *
      generalize hpp : (2 : Int) ^ t = P at *
      clear hxx hpp
      have hq0 : 0 ≤ x / P := Int.ediv_nonneg hx0 (by omega)
      have hqe : (x / P).tmod 2 = x / P % 2 := Int.tmod_eq_emod_of_nonneg hq0
      go_wp2_with fail
      have hcr : wr.cell? ⟨b, off + k, none⟩ = some (.int .i64 x) := (hB.cell hltb).trans hc
      have hca : ∀ o, (wr.alloc o).cell? ⟨b, off + k, none⟩ = some (.int .i64 x) := fun o => ((hB.alloc hB.size o).cell hltb).trans hc
      go_region_held_law (fun w' => w'.cell? ⟨b, off + k, none⟩ = some (.int .i64 x)) (first | exact (hB'.cell hltb).trans hc | exact hcr | exact hca _ | go_keep)
        (first
          | (go_at_call 40; refine (PW.out _).mono ?_; rintro e w' ⟨rfl, rfl⟩)
          | (refine step_pushZ w _ w.heap.size w.heap.size (by rfl) (.tmp 13) (.tmp 22) (by rfl) _ k (trk (zs.take k) t) (by rfl) wr.heap.size (x / P % 2) (by rfl) (World.ownsRow.drew (hO.alloc _)) (cell_new1 _ _ _) (size_new1 hB.size _) (by omega) (hB.alloc hB.size _).drew (Nat.le_refl _) ?_; intro g' c' w' hO' hB')
          | fail)
      all_goals
        go_wp2
        go_roundw
        case rel =>
          go_light
          exact ⟨k + 1, by omega, by go_num, by rw [HT.out]; exact hO', hB'⟩
        case measure => simp [intOf]; omega
    · obtain rfl : k = n := by omega
      rw [List.take_of_length_le (by rw [HL.out]; exact Nat.le_refl _)] at hO
      go_wp2
      go_ret
      exact ⟨_, rfl, hO, hB⟩
theorem quiet_same {P : Program} {f : FuncId} {args : Array Value} {w : World} {n : Nat} {v : Value}
    (h : Calls P f args (w.drewN n) fun e w' => e = .returned v ∧ w.drewN n = w') : Calls P f args (w.drewN n) fun e w'' => e = .returned v ∧ ∃ m, w'' = w.drewN m :=
  h.mono fun _ _ ⟨he, hm⟩ => ⟨he, n, hm.symm⟩
theorem below_drewN (B : Nat) (w : World) (n : Nat) : Below B w (w.drewN n) := by
  induction n with
  | zero => exact Below.refl _ _
  | succ n ih => exact ih.drew
end Go.Proofs.Ytkanjgphmafjbaa.Wo
