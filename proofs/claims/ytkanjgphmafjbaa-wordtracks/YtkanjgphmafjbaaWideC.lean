/- The document's wide numbers: sums and differences of absolute values. -/
import Derived.Test.YtkanjgphmafjbaaWideB
import Derived.Deep.Light
namespace Go.Proofs.Ytkanjgphmafjbaa.Wd
open Go.RowKit
set_option linter.unusedVariables false

theorem Try.info63 : (Try.prog.info? 63).map (fun i => (i.zero, i.size, i.bytes)) = some (some (.int .u64 0), 1, 8) := by kernel_rfl
abbrev cellsU (O : List Nat) : List Value := O.map (fun d : Nat => Value.int .u64 (d : Int))

theorem cell_new3 (W : World) (a b : Obj) (v : Value) (t : TypeId) : (((W.alloc a).alloc b).alloc (.cells #[v] t)).drew.cell? ⟨W.heap.size + 1 + 1, 0, none⟩ = some v := by
  have h : ∀ (X : World) (n : Nat), X.heap.size = n → (X.alloc (.cells #[v] t)).drew.cell? ⟨n, 0, none⟩ = some v := by
    intro X n hn
    subst hn
    simp
  exact h _ _ (by simp)
theorem size_new3 {W : World} {n : Nat} (h : n ≤ W.heap.size) (a b c : Obj) : n ≤ (((W.alloc a).alloc b).alloc c).drew.heap.size := by simp; omega
theorem below_new3 {B : Nat} {W0 W : World} (h : Below B W0 W) (hB : B ≤ W.heap.size) (a b c : Obj) : Below B W0 (((W.alloc a).alloc b).alloc c).drew :=
  (((h.alloc hB _).alloc (by simp; omega) _).alloc (by simp; omega) _).drew
theorem owns_new3 {W : World} {base k : Nat} {v : Value} {xs : List Value} (h : W.ownsRow base 63 1 v k xs) (a b c : Obj) : (((W.alloc a).alloc b).alloc c).drew.ownsRow base 63 1 v k xs := (((h.alloc _).alloc _).alloc _).drew
/-- 'out = append(out, d)' -/
theorem wp_push {ops : Array Oper} {rest : List Oper} {o : Oper} {a : Act} {Q : Exit → Act → World → Prop} (W0 Wc : World) (B base : Nat) (hgd : o.guard = none) (s x : Operand)
    (ho : o.op = .call { callee := .builtin .append, args := #[s, x], argTypes := #[57, 57] }) (v : Value) (k : Nat) (O : List Nat) (hs : a.eval s = v) (g : Nat) (d : Nat) (c : Int) (hx : a.eval x = .slice (some ⟨g, 0, none⟩) 1 1)
    (hown : Wc.ownsRow base 63 1 v k (cellsU O)) (hcell : Wc.cell? ⟨g, 0, none⟩ = some (.int .u64 c)) (hd : c = (d : Int)) (hbase : base ≤ Wc.heap.size) (hk : k ≤ 1000) (hbel : Below B W0 Wc) (hB : B ≤ base)
    (h : ∀ v' w', w'.ownsRow base 63 1 v' (k + 1) (cellsU (O ++ [d])) → Below B W0 w' → wpList Try.prog ops Q rest (a.put o.dst v') w') : wpList Try.prog ops Q (o :: rest) a Wc := by
  subst hd
  obtain ⟨i0, hi, hz0, hz1, hz2⟩ := info_parts Try.info63
  refine wpList_append_own _ hgd s x 57 ho base 63 i0 (.int .u64 0) 1 8 Try.underlying57 hi hz0 hz1 hz2 rfl (by decide) _ k _ hs hown ⟨g, 0, none⟩ 1 1 [.int .u64 (d : Int)] hx rfl ?_ ?_ (by unfold maxLen; omega) (by omega) hbase ?_
  · intro j u hj
    match j, hj with
    | 0, hj => simp at hj; subst hj; simpa [Addr.add] using hcell
  · intro u hu; simp at hu; subst hu; rfl
  · intro v' w' h1 h2 _
    refine h v' w' (by simpa [cellsU] using h1) (hbel.grown h2 (by omega) ?_)
    intro q hq
    have := hown.lt q hq
    omega

theorem dg_of_owns {w : World} {base : Nat} {v : Value} {k : Nat} {O : List Nat} (h : w.ownsRow base 63 1 v k (cellsU O)) (hs : Small O) (hk : k ≤ 1000000) : ∃ ro cr, v = .slice ro k cr ∧ Dg w ro k cr O := by
  have h' := h
  obtain ⟨hl, hv⟩ := h'
  simp only [List.length_map, Nat.mul_one] at hl
  rcases hv with ⟨rfl, hn⟩ | ⟨g, cap, cur, rfl, hg, hh, hnc, hcm, hcs, hx⟩
  · subst hn
    exact ⟨none, 0, rfl, hl, Nat.le_refl _, by omega, by omega, fun _ => rfl, fun i hi => by omega, hs⟩
  · refine ⟨some ⟨g, 0, none⟩, cap, rfl, hl, hnc, hcm, hk, (fun h => nomatch h), (fun i hi => ⟨g, 0, rfl, ?_⟩), hs⟩
    rw [Nat.zero_add, h.cellAt i (by omega), List.getElem?_map, List.getElem?_eq_getElem (by omega)]
    simp [dg, List.getD_eq_getElem?_getD, List.getElem?_eq_getElem (show i < O.length by omega)]

set_option maxHeartbeats 2000000 in
theorem plus_at (na nb : Bool) (ao bo : Option Addr) (la ca lb cb : Nat) (A B : List Nat) (w : World) (hA : Dg w ao la ca A) (hB : Dg w bo lb cb B) (ha : la ≤ 64) (hb : lb ≤ 64) :
    Calls Try.prog 54 #[.agg #[.bool na, .slice ao la ca], .agg #[.bool nb, .slice bo lb cb]] w fun e w' => ∃ ro lr cr R, e = .returned (.slice ro lr cr) ∧ Dg w' ro lr cr R ∧ val R = val A + val B ∧ Below w.heap.size w w' := by
  obtain ⟨i0, hi, hz0, hz1, hz2⟩ := info_parts Try.info63
  have hcA := hA.lecap
  have hmA := hA.lemax
  have hmA' := hA.lelen
  have hcB := hB.lecap
  have hmB := hB.lemax
  have hmB' := hB.lelen
  obtain ⟨M, hM⟩ : ∃ M, (la < lb ∧ lb ≤ M ∧ M ≤ lb) ∨ (¬ la < lb ∧ la ≤ M ∧ M ≤ la) := ⟨max la lb, by omega⟩
  go_enter Try.func54, Try.ntmps54
  go_wp2
  go_loopw [5, 6, 7] (fun v c i wr => ∃ (k cy : Nat) (O : List Nat), i = .int .i64 k ∧ c = .int .u64 cy ∧ cy ≤ 1 ∧ O.length = k ∧ Small O ∧ wr.ownsRow (w.heap.size + 2) 63 1 v k (cellsU O) ∧ Hid (val O + 65536 ^ k * cy = V (dg A) k + V (dg B) k) ∧
      (k ≤ M ∨ (k = M + 1 ∧ cy = 0)) ∧ Below (w.heap.size + 2) ((w.alloc (.cells #[.bool na, .slice ao la ca] 59)).alloc (.cells #[.bool nb, .slice bo lb cb] 59)) wr)
    (fun _ _ i _ => M + 1 - (intOf i).toNat)
  case atStart => exact ⟨0, 0, [], rfl, rfl, by omega, rfl, (fun d hd => by simp at hd), World.ownsRow_nil _ _ _ _, by simp [Hid, val, V], by omega, Below.refl _ _⟩
  case round =>
    obtain ⟨k, cy, O, rfl, rfl, hcy, hOl, hOs, hown, hinv, hend, hnx⟩ := hrel
    have c0 : wr.cell? ⟨w.heap.size, 0, none⟩ = some (.bool na) := by rw [hnx.cell (by simp)]; simp
    have c1 : wr.cell? ⟨w.heap.size, 1, none⟩ = some (.slice ao la ca) := by rw [hnx.cell (by simp)]; simp
    have c2 : wr.cell? ⟨w.heap.size + 1, 0, none⟩ = some (.bool nb) := by rw [hnx.cell (by simp)]; simp
    have c3 : wr.cell? ⟨w.heap.size + 1, 1, none⟩ = some (.slice bo lb cb) := by rw [hnx.cell (by simp)]; simp
    have hsz : w.heap.size + 2 ≤ wr.heap.size := by have := hnx.size; simp at this; omega
    have hbw : Below w.heap.size w wr := (((Below.refl _ _).alloc (Nat.le_refl _) _).alloc (by simp) _).trans (hnx.mono (by omega))
    have hbw1 : Below w.heap.size w wr.drew := hbw.drew
    have hbw2 : ∀ o, Below w.heap.size w (wr.alloc o).drew := fun o => (hbw.alloc (by omega) o).drew
    have hlA := dg_lt hA.small k
    have hlB := dg_lt hB.small k
    obtain ⟨S, hS⟩ : ∃ S, S = dg A k + dg B k + cy := ⟨_, rfl⟩
    have hS1 : IntKind.u64.wrap (IntKind.u64.wrap (↑(dg A k) + ↑(dg B k)) + ↑cy) = (S : Int) := by rw [IntKind.wrap_u64, IntKind.wrap_u64]; omega
    have hS2 : bits .and .u64 (S : Int) 65535 = ((S % 65536 : Nat) : Int) := by rw [and_low _ (by omega) (by omega)]; omega
    have hS3 : S < 131072 := by omega
    have hS4 : Hid (S = dg A k + dg B k + cy) := hS
    clear hS
    have hcase : (k < M ∨ (M ≤ k ∧ k ≤ M ∧ 0 < cy)) ∨ (¬ k < M ∧ ¬ 0 < cy) := by omega
    rcases hcase with hgo | ⟨hgo, hcar⟩
    · have hM64 : k ≤ 64 := by omega
      have hkM : k ≤ M := by omega
      have hcy' : k + 1 ≤ M ∨ (k + 1 = M + 1 ∧ S / 65536 = 0) := by
        have hS5 := hS4.out
        by_cases h : k < M
        · omega
        · right
          have e1 : dg A k = 0 := dg_none (by rw [hA.eqlen]; omega)
          have e2 : dg B k = 0 := dg_none (by rw [hB.eqlen]; omega)
          omega
      have HC : Hid (k + 1 ≤ M ∨ (k + 1 = M + 1 ∧ S / 65536 = 0)) := hcy'
      clear hcy' hend
      rcases hgo with hgo | ⟨hgo, hgo2, hcar⟩
      all_goals rcases hM with ⟨hll, hm1, hm2⟩ | ⟨hll, hm1, hm2⟩
      all_goals
        go_wp2
        go_region_held3 (fun w' => w'.cell? ⟨w.heap.size, 0, none⟩ = some (.bool na) ∧ w'.cell? ⟨w.heap.size, 1, none⟩ = some (.slice ao la ca) ∧ w'.cell? ⟨w.heap.size + 1, 0, none⟩ = some (.bool nb) ∧ w'.cell? ⟨w.heap.size + 1, 1, none⟩ = some (.slice bo lb cb)) (go_keep)
          (first
            | (go_at_call_of 48 (Value.agg #[Value.bool na, Value.slice ao la ca]); refine (digit_at na ao la ca A k _ ?_ (by omega)).mono ?_; exact hA.below (Nat.le_refl _) (by first | exact hbw | exact hbw1 | exact hbw2 _); rintro e w' ⟨rfl, rfl⟩)
            | (go_at_call_of 48 (Value.agg #[Value.bool nb, Value.slice bo lb cb]); refine (digit_at nb bo lb cb B k _ ?_ (by omega)).mono ?_; exact hB.below (Nat.le_refl _) (by first | exact hbw | exact hbw1 | exact hbw2 _); rintro e w' ⟨rfl, rfl⟩))
        go_wp2_with (at_builtin; refine wp_push ((w.alloc (.cells #[.bool na, .slice ao la ca] 59)).alloc (.cells #[.bool nb, .slice bo lb cb] 59)) _ (w.heap.size + 2) (w.heap.size + 2) rfl (.tmp 33) (.tmp 36) rfl _ k O rfl (wr.heap.size + 1 + 1) (S % 65536) _ rfl (owns_new3 hown _ _ _) (cell_new3 _ _ _ _ _) (by omega) (size_new3 hsz _ _ _) (by omega) (below_new3 hnx hsz _ _ _) (Nat.le_refl _) ?_; intro v' w1 hown' hnx')
        go_roundw
        case rel =>
          go_light
          exact ⟨k + 1, S / 65536, O ++ [S % 65536], by go_num, by go_num, by omega, by rw [List.length_append, hOl]; rfl, small_snoc hOs (by omega), hown', plus_step hOl hinv.out hS4.out, HC.out, hnx'⟩
        case measure => simp [intOf]; omega
    · have hcy0 : cy = 0 := by omega
      subst hcy0
      obtain ⟨ro, cr, rfl, hR⟩ := dg_of_owns hown hOs (by omega)
      have hv : Hid (val O = val A + val B) := by
        have h := hinv.out
        have e1 := val_at (ds := A) (k := k) (by rw [hA.eqlen]; omega)
        have e2 := val_at (ds := B) (k := k) (by rw [hB.eqlen]; omega)
        show val O = val A + val B
        omega
      clear hinv
      rcases hM with ⟨hll, hm1, hm2⟩ | ⟨hll, hm1, hm2⟩
      all_goals
        go_wp2
        go_ret
        exact ⟨ro, k, cr, rfl, O, hR, hv.out, hbw⟩
end Go.Proofs.Ytkanjgphmafjbaa.Wd
