/- The program's set: Put, Drop, Has. -/
import Derived.Test.YtholafecbmhhhaaBitC
import Derived.Test.YtholafecbmhhhaaDigF
import Derived.Test.YtholafecbmhhhaaSetE
import Derived.Deep.RegionWith
namespace Go.Proofs.Ytholafecbmhhhaa.Dg
open Go.RowKit
set_option linter.unusedVariables false

set_option maxHeartbeats 1000000 in
theorem put_raw (p g n m i q r : Nat) (C : List Nat) (w : World) (h : Bs w p g n m C) (hi : i < n) (hq : i / 64 = q) (hr : i % 64 = r) :
    Calls Try.prog 13 #[at_p p, .int .i64 i] w fun e w' => e = .returned (.int .i64 0) ∧ (w.setCell ⟨g, q, none⟩ (.int .u64 ((C.getD q 0 ||| 2 ^ r : Nat) : Int))).drew = w' := by
  have hs := h.sz
  have hc := h.at_c
  have hn := h.small
  have hm := h.len
  have hqm : q < m := by omega
  have hx := h.cell q hqm
  have hf := h.row.frozenAt q
  have hlt := h.clt q
  have hp : 2 ^ r < 2 ^ 64 := Nat.pow_lt_pow_right (by omega) (by omega)
  have HO : Hid (bits .or .u64 ((C.getD q 0 : Nat) : Int) ((2 ^ r : Nat) : Int) = ((C.getD q 0 ||| 2 ^ r : Nat) : Int)) := u64_or_nat _ _ hlt hp
  have hm64 : m ≤ 64 := by omega
  have hdiv : (i : Int) / 64 = (q : Int) := by omega
  have hwq : IntKind.i64.wrap (q : Int) = (q : Int) := by rw [IntKind.wrap_i64]; omega
  have HC := fun w => bitOf_at i w (by omega)
  rw [hr] at HC
  have HB := fun (w : World) (h : Bs w p g n m C) => refuse_at p g n m C i w h
  rw [if_pos ⟨by omega, by omega⟩] at HB
  generalize C.getD q 0 = X at hx HO hlt
  generalize 2 ^ r = Y at HC HO hp
  clear hm hq hr
  go_enter Try.func13, Try.ntmps13
  go_wp2_with (go_at_call 43; refine (HB _ h).mono ?_; rintro e w' ⟨rfl, rfl⟩)
  go_region_with (go_at_call 44; refine (HC _).mono ?_; rintro e w' ⟨rfl, rfl⟩)
  all_goals
    go_wp2
    go_ret
    exact ⟨rfl, by rw [HO.out]⟩
set_option maxHeartbeats 1000000 in
theorem drop_raw (p g n m i q r : Nat) (C : List Nat) (w : World) (h : Bs w p g n m C) (hi : i < n) (hq : i / 64 = q) (hr : i % 64 = r) :
    Calls Try.prog 15 #[at_p p, .int .i64 i] w fun e w' => e = .returned (.int .i64 0) ∧ (w.setCell ⟨g, q, none⟩ (.int .u64 ((C.getD q 0 &&& (18446744073709551615 - 2 ^ r) : Nat) : Int))).drew = w' := by
  have hs := h.sz
  have hc := h.at_c
  have hn := h.small
  have hm := h.len
  have hqm : q < m := by omega
  have hx := h.cell q hqm
  have hf := h.row.frozenAt q
  have hlt := h.clt q
  have hp : 2 ^ r < 2 ^ 64 := Nat.pow_lt_pow_right (by omega) (by omega)
  have HO : Hid (bits .andNot .u64 ((C.getD q 0 : Nat) : Int) ((2 ^ r : Nat) : Int) = ((C.getD q 0 &&& (18446744073709551615 - 2 ^ r) : Nat) : Int)) := u64_andNot_nat _ _ hlt hp
  have hm64 : m ≤ 64 := by omega
  have hdiv : (i : Int) / 64 = (q : Int) := by omega
  have hwq : IntKind.i64.wrap (q : Int) = (q : Int) := by rw [IntKind.wrap_i64]; omega
  have HC := fun w => bitOf_at i w (by omega)
  rw [hr] at HC
  have HB := fun (w : World) (h : Bs w p g n m C) => refuse_at p g n m C i w h
  rw [if_pos ⟨by omega, by omega⟩] at HB
  generalize C.getD q 0 = X at hx HO hlt
  generalize 2 ^ r = Y at HC HO hp
  clear hm hq hr
  go_enter Try.func15, Try.ntmps15
  go_wp2_with (go_at_call 43; refine (HB _ h).mono ?_; rintro e w' ⟨rfl, rfl⟩)
  go_region_with (go_at_call 44; refine (HC _).mono ?_; rintro e w' ⟨rfl, rfl⟩)
  all_goals
    go_wp2
    go_ret
    exact ⟨rfl, by rw [HO.out]⟩
theorem put_out (p g n m : Nat) (C : List Nat) (x : Int) (w : World) (h : Bs w p g n m C) (hx : ¬ (0 ≤ x ∧ x < n)) :
    Calls Try.prog 13 #[at_p p, .int .i64 x] w fun e w' => e = .returned (.int .i64 2) ∧ w = w' := by
  have HB := fun (w : World) (h : Bs w p g n m C) => refuse_at p g n m C x w h
  rw [if_neg hx] at HB
  clear hx
  go_enter Try.func13, Try.ntmps13
  go_wp2_with (go_at_call 43; refine (HB _ h).mono ?_; rintro e w' ⟨rfl, rfl⟩)
  go_ret
  exact ⟨rfl, rfl⟩
theorem drop_out (p g n m : Nat) (C : List Nat) (x : Int) (w : World) (h : Bs w p g n m C) (hx : ¬ (0 ≤ x ∧ x < n)) :
    Calls Try.prog 15 #[at_p p, .int .i64 x] w fun e w' => e = .returned (.int .i64 2) ∧ w = w' := by
  have HB := fun (w : World) (h : Bs w p g n m C) => refuse_at p g n m C x w h
  rw [if_neg hx] at HB
  clear hx
  go_enter Try.func15, Try.ntmps15
  go_wp2_with (go_at_call 43; refine (HB _ h).mono ?_; rintro e w' ⟨rfl, rfl⟩)
  go_ret
  exact ⟨rfl, rfl⟩
theorem put_nil (x : Int) (w : World) :
    Calls Try.prog 13 #[.pointer none, .int .i64 x] w fun e w' => e = .returned (.int .i64 1) ∧ w = w' := by
  go_enter Try.func13, Try.ntmps13
  go_wp2_with (go_at_call 43; refine (refuse_nil _ _).mono ?_; rintro e w' ⟨rfl, rfl⟩)
  go_ret
  exact ⟨rfl, rfl⟩
theorem drop_nil (x : Int) (w : World) :
    Calls Try.prog 15 #[.pointer none, .int .i64 x] w fun e w' => e = .returned (.int .i64 1) ∧ w = w' := by
  go_enter Try.func15, Try.ntmps15
  go_wp2_with (go_at_call 43; refine (refuse_nil _ _).mono ?_; rintro e w' ⟨rfl, rfl⟩)
  go_ret
  exact ⟨rfl, rfl⟩

/-- the cells with number i in, out -/
def putC (C : List Nat) (i : Nat) : List Nat := C.set (i / 64) (C.getD (i / 64) 0 ||| 2 ^ (i % 64))
def dropC (C : List Nat) (i : Nat) : List Nat := C.set (i / 64) (C.getD (i / 64) 0 &&& (18446744073709551615 - 2 ^ (i % 64)))
theorem bitAt_put (C : List Nat) (i j : Nat) (hi : i / 64 < C.length) : bitAt (putC C i) j = (bitAt C j || decide (i = j)) := by
  unfold bitAt putC
  by_cases e : i / 64 = j / 64
  · rw [← e, getD_set_same _ _ _ _ hi, Nat.testBit_or, Nat.testBit_two_pow]
    congr 1
    by_cases e2 : i % 64 = j % 64
    · rw [decide_eq_true e2, decide_eq_true (by omega)]
    · rw [decide_eq_false e2, decide_eq_false (fun h => e2 (by rw [h]))]
  · rw [getD_set_other _ _ _ _ _ e, decide_eq_false (fun h => e (by rw [h])), Bool.or_false]
theorem bitAt_drop (C : List Nat) (i j : Nat) (hi : i / 64 < C.length) (hl : C.getD (i / 64) 0 < 18446744073709551616) : bitAt (dropC C i) j = (bitAt C j && !decide (i = j)) := by
  unfold bitAt dropC
  by_cases e : i / 64 = j / 64
  · rw [← e, getD_set_same _ _ _ _ hi, Nat.testBit_and, show 18446744073709551615 - 2 ^ (i % 64) = 2 ^ 64 - (2 ^ (i % 64) + 1) from by omega, Nat.testBit_two_pow_sub_succ (Nat.pow_lt_pow_right (by omega) (by omega)), Nat.testBit_two_pow]
    have hj : j % 64 < 64 := by omega
    rw [decide_eq_true hj, Bool.true_and]
    congr 2
    by_cases e2 : i % 64 = j % 64
    · rw [decide_eq_true e2, decide_eq_true (by omega)]
    · rw [decide_eq_false e2, decide_eq_false (fun h => e2 (by rw [h]))]
  · rw [getD_set_other _ _ _ _ _ e, decide_eq_false (fun h => e (by rw [h])), Bool.not_false, Bool.and_true]
theorem cells_setU (C : List Nat) (q V : Nat) : (cellsU C).set q (.int .u64 (V : Int)) = cellsU (C.set q V) := by unfold cellsU; rw [List.map_set]
theorem Bs.stored {w : World} {p g n m : Nat} {C : List Nat} (h : Bs w p g n m C) (q V : Nat) (hV : V < 18446744073709551616) (hhi : ∀ j, n ≤ j → bitAt (C.set q V) j = false) :
    Bs (w.setCell ⟨g, q, none⟩ (.int .u64 (V : Int))).drew p g n m (C.set q V) ∧ w.grownBy (w.setCell ⟨g, q, none⟩ (.int .u64 (V : Int))).drew (some g) := by
  obtain ⟨h1, h2⟩ := h.row.stored q (.int .u64 (V : Int))
  rw [cells_setU] at h1
  have hb : (w.setCell ⟨g, q, none⟩ (.int .u64 (V : Int))).heap[p]? = w.heap[p]? := Below.heap_setCell _ _ _ _ h.ne
  refine ⟨⟨(World.cell?_of_block (w := w) (w' := (w.setCell ⟨g, q, none⟩ (.int .u64 (V : Int))).drew) (a := ⟨p, 0, none⟩) hb).trans h.sz, (World.cell?_of_block (w := w) (w' := (w.setCell ⟨g, q, none⟩ (.int .u64 (V : Int))).drew) (a := ⟨p, 1, none⟩) hb).trans h.at_c, h1.drew, h.small, h.len, ?_, hhi, h.ne⟩, grown_drew h2⟩
  intro x hx
  rcases List.mem_or_eq_of_mem_set hx with hx | rfl
  · exact h.lt x hx
  · exact hV
theorem put_in (p g n m i : Nat) (C : List Nat) (w : World) (h : Bs w p g n m C) (hi : i < n) :
    Calls Try.prog 13 #[at_p p, .int .i64 i] w fun e w' => e = .returned (.int .i64 0) ∧ Bs w' p g n m (putC C i) ∧ w.grownBy w' (some g) := by
  refine (put_raw p g n m i _ _ C w h hi rfl rfl).mono ?_
  rintro e w' ⟨rfl, rfl⟩
  have hm := h.len
  have hcl := h.clen
  exact ⟨rfl, h.stored _ _ (Nat.or_lt_two_pow (n := 64) (h.clt _) (Nat.pow_lt_pow_right (by omega) (by omega))) (fun j hj => by
    have := bitAt_put C i j (by omega)
    unfold putC at this
    rw [this, h.hi j hj, decide_eq_false (by omega)]; rfl)⟩
theorem drop_in (p g n m i : Nat) (C : List Nat) (w : World) (h : Bs w p g n m C) (hi : i < n) :
    Calls Try.prog 15 #[at_p p, .int .i64 i] w fun e w' => e = .returned (.int .i64 0) ∧ Bs w' p g n m (dropC C i) ∧ w.grownBy w' (some g) := by
  refine (drop_raw p g n m i _ _ C w h hi rfl rfl).mono ?_
  rintro e w' ⟨rfl, rfl⟩
  have hm := h.len
  have hcl := h.clen
  exact ⟨rfl, h.stored _ _ (Nat.and_lt_two_pow (n := 64) _ (Nat.lt_of_le_of_lt (Nat.sub_le _ _) (by decide))) (fun j hj => by
    have := bitAt_drop C i j (by omega) (h.clt _)
    unfold dropC at this
    rw [this, h.hi j hj]; rfl)⟩
end Go.Proofs.Ytholafecbmhhhaa.Dg
