/- The variables as the row lists them: what the walks ask. -/
import Derived.Test.YtabfhdmcljdjhaaGreatDoorRows
import Derived.Test.YtabfhdmcljdjhaaGreatDoorLyA
import Derived.LaidMore
import Derived.OpenShut
import Derived.Stop.LaidErr
import Derived.Lib.LaidTab
import Derived.Lib.Strings
import Derived.Test.YtabfhdmcljdjhaaGreatDoorTrB
import Derived.Test.YtabfhdmcljdjhaaGreatDoorGlN
import Derived.Laws.StructEq
namespace Go.Proofs.YtabfhdmcljdjhaaGreatDoor.Gl
open Go.RowKit
set_option linter.unusedVariables false

def strsD {H : Type} (l : List (List UInt8)) : DataW H := .agg (l.map fun b => .lit (.string b))
theorem cells_of_strs {H : Type} {enc : TypeId × Value → H} {P : Program} {w : World} {base : Nat} {sp : Nat → Bool} {held : Bool} {fuel : Nat} {t e : TypeId} {n : Nat} {cs : List Value} {l : List (List UInt8)} {p : List MemPlace}
    (ht : P.underlying t = some (.array n e)) (he : P.underlying e = some .string) (hce : P.cellsOf e = 1) (hct : P.cellsOf t = n)
    (h : DataW.trod enc P w base sp held fuel t cs = some (strsD l, p)) : cs = l.map fun b => Value.string ⟨b.toArray⟩ := by
  obtain ⟨xs, m, _, hx, hlen, hxl, hel⟩ := DataW.trod_array ht h
  have hxs : xs.map (·.1) = l.map fun b => (DataW.lit (.string b) : DataW H) := (DataW.agg.inj (Prod.mk.inj hx).1).symm
  have hll : l.length = n := by
    have := congrArg List.length hxs
    simp only [List.length_map] at this
    omega
  apply List.ext_getElem?
  intro i
  by_cases hi : i < n
  · have hk := hel i hi
    have hxi : xs[i]? = some (xs[i]'(by omega)) := List.getElem?_eq_getElem _
    rw [hxi, hce] at hk
    obtain ⟨s, hc, hy, _⟩ := DataW.trod_string he hk
    have h1 : cs[i]? = some (.string s) := by
      have := congrArg (·[0]?) hc
      simpa [List.getElem?_take, List.getElem?_drop] using this
    have h2 : (xs.map (·.1))[i]? = some (DataW.lit (.string s.data.toList) : DataW H) := by rw [List.getElem?_map, hxi, hy]; rfl
    rw [hxs, List.getElem?_map, Option.map_eq_some_iff] at h2
    obtain ⟨b, hb, hbe⟩ := h2
    simp only [DataW.lit.injEq, Lit.string.injEq] at hbe
    rw [h1, List.getElem?_map, hb, hbe]
    show _ = some (Value.string ⟨s.data.toList.toArray⟩)
    rw [Array.toArray_toList]
  · rw [List.getElem?_eq_none (by omega), List.getElem?_eq_none (by simp; omega)]
abbrev laidL : List (String × DataW Unit) := Rows.parseFormulasRow.laid
theorem Tryz.rowErr (u : TypeId) (h : Tryz.prog.typeName? 3 u = some "*errors.errorString") : u = 157 :=
  typeName_ptr_named (nm := "errors.errorString") (by kernel_rfl) (by kernel_rfl) (by decide) u h
theorem Tryz.cellsT (h : True) : Tryz.prog.cellsOf 159 = 1 ∧ Tryz.prog.cellsOf 9 = 1 ∧ Tryz.prog.cellsOf 137 = 18 := ⟨by kernel_rfl, by kernel_rfl, by kernel_rfl⟩
theorem sg_of_laid {W : World} (h : laidMetH Tryz.prog laidL W) : Sg W := by
  rw [MakeChecks.laidMetH_plain _ _ _ (by kernel_rfl)] at h
  have h3 : laidMet Tryz.prog [("strconv.ErrRange", Rows.laid_strconv_ErrRange), ("strconv.ErrSyntax", Rows.laid_strconv_ErrSyntax), ("tabard/lex.signs", Rows.laid_tabard_lex_signs)] W := h.tail.tail.tail
  obtain ⟨c1, c2, c3⟩ := Tryz.cellsT trivial
  have gR : Tryz.prog.globalNamed "strconv.ErrRange" = some 2 := by kernel_rfl
  have gS : Tryz.prog.globalNamed "tabard/lex.signs" = some 0 := by kernel_rfl
  obtain ⟨a, s, hv, _, _, _⟩ := laid_sentinel h3 gR (by kernel_rfl) Tryz.underlying134 Tryz.rowErr Tryz.underlying157 Tryz.underlying159 rfl rfl Tryz.underlying9 c1 c2
  obtain ⟨ps, ⟨g, t, cs, fuel, p, q, hg, ht, hvar, hd, _, _⟩, _⟩ := h3.tail.tail
  obtain rfl := Option.some.inj (gS.symm.trans hg)
  obtain rfl := Option.some.inj ((show (Tryz.prog.globals[0]?).map (·.type) = some 137 by kernel_rfl).symm.trans ht)
  have e : cs.toList = sgnArr.toList := cells_of_strs (l := [[40], [41], [91], [93], [44], [46], [43], [45], [42], [61], [33, 61], [60, 61], [62, 61], [60], [62], [45, 62], [60, 45, 62], [126]]) Tryz.underlying137 Tryz.underlying9 c2 c3 hd
  have e' : cs = sgnArr := Array.toList_inj.1 e
  subst e'
  refine ⟨?_, ⟨_, _, by have := World.var?_cell gR hv 0; simpa using this⟩⟩
  unfold World.var? at hvar
  simp only [hg, Option.bind_some] at hvar
  split at hvar
  · rename_i cs t fr heq
    cases hvar
    exact ⟨_, _, heq⟩
  · cases hvar
end Go.Proofs.YtabfhdmcljdjhaaGreatDoor.Gl
/- Is a node well made? -/
namespace Go.Proofs.YtabfhdmcljdjhaaGreatDoor.Gl
open Go.RowKit
set_option linter.unusedVariables false

set_option maxHeartbeats 2000000 in
theorem fitsT0 (n : Int) (x : ByteArray) (t a : Nat) (w : World) :
    Calls Tryz.prog 88 #[.int .i64 0, .agg #[.string x, .int .i64 n, .int .i64 (t : Nat), .int .i64 (a : Nat)]] w fun e w' => e = .returned (.bool (wT nmB 0 n x a && decide (t = 0))) ∧ Below w.heap.size w w' := by
  have HW : Hid ((wT nmB 0 n x a && decide (t = 0)) = (decide (0 ≤ n) && (x.toList == []) && decide (a = 0) && decide (t = 0))) := by
    show (wT nmB 0 n x a && decide (t = 0)) = _
    simp [wT]
  go_enter Tryz.func88, Tryz.ntmps88
  go_wp2
  all_goals
    go_ret
    refine ⟨retb ?_, (Below.refl _ _).alloc (Nat.le_refl _) _⟩
    rw [HW.out]
    first
      | rfl
      | (simp [*]; done)
      | (simp [*]; omega)
set_option maxHeartbeats 2000000 in
theorem fitsT1 (n : Int) (x : ByteArray) (t a : Nat) (w : World) (hs : Sz x.size) :
    Calls Tryz.prog 88 #[.int .i64 1, .agg #[.string x, .int .i64 n, .int .i64 (t : Nat), .int .i64 (a : Nat)]] w fun e w' => e = .returned (.bool (wT nmB 1 n x a && decide (t = 0))) ∧ Below w.heap.size w w' := by
  have HW : Hid ((wT nmB 1 n x a && decide (t = 0)) = (decide (n = 0) && nmB x && decide (a = 0) && decide (t = 0))) := by
    show (wT nmB 1 n x a && decide (t = 0)) = _
    simp [wT]
  obtain ⟨b, hb⟩ : ∃ b, nmB x = b := ⟨_, rfl⟩
  have HN := (nmB_iff x)
  rw [hb] at HN
  have RC : Hid (∀ w, Calls Tryz.prog 100 #[.string x] w fun e w' => e = .returned (.bool b) ∧ Below w.heap.size w w') := fun w => name_at x b w hs HN
  have HB : Hid (nmB x = b) := hb
  clear hb HN
  cases b
  · go_enter Tryz.func88, Tryz.ntmps88
    go_wp2_with (go_at_call 100; refine (RC.out _).mono ?_; rintro e w2 ⟨rfl, hB2⟩; have hd := (res_keep hB2).2.2.1; have e0 : w2.cell? ⟨w.heap.size, 0, none⟩ = some (.string x) := hd 0; have e1 : w2.cell? ⟨w.heap.size, 1, none⟩ = some (.int .i64 n) := hd 1; have e2 : w2.cell? ⟨w.heap.size, 2, none⟩ = some (.int .i64 (t : Nat)) := hd 2; have e3 : w2.cell? ⟨w.heap.size, 3, none⟩ = some (.int .i64 (a : Nat)) := hd 3; have hB3 := ba2 hB2; clear hd hB2)
    all_goals
      go_ret
      refine ⟨retb ?_, hB3⟩
      rw [HW.out, HB.out]
      clear RC
      first
        | rfl
        | (simp [*]; done)
        | (simp [*]; omega)
  · go_enter Tryz.func88, Tryz.ntmps88
    go_wp2_with (go_at_call 100; refine (RC.out _).mono ?_; rintro e w2 ⟨rfl, hB2⟩; have hd := (res_keep hB2).2.2.1; have e0 : w2.cell? ⟨w.heap.size, 0, none⟩ = some (.string x) := hd 0; have e1 : w2.cell? ⟨w.heap.size, 1, none⟩ = some (.int .i64 n) := hd 1; have e2 : w2.cell? ⟨w.heap.size, 2, none⟩ = some (.int .i64 (t : Nat)) := hd 2; have e3 : w2.cell? ⟨w.heap.size, 3, none⟩ = some (.int .i64 (a : Nat)) := hd 3; have hB3 := ba2 hB2; clear hd hB2)
    all_goals
      go_ret
      refine ⟨retb ?_, hB3⟩
      rw [HW.out, HB.out]
      clear RC
      first
        | rfl
        | (simp [*]; done)
        | (simp [*]; omega)
set_option maxHeartbeats 2000000 in
theorem fitsT2 (n : Int) (x : ByteArray) (t a : Nat) (w : World) :
    Calls Tryz.prog 88 #[.int .i64 2, .agg #[.string x, .int .i64 n, .int .i64 (t : Nat), .int .i64 (a : Nat)]] w fun e w' => e = .returned (.bool (wT nmB 2 n x a && decide (t = 0))) ∧ Below w.heap.size w w' := by
  have HW : Hid ((wT nmB 2 n x a && decide (t = 0)) = (decide (n = 0) && (x.toList == []) && decide (a = 1) && decide (t = 0))) := by
    show (wT nmB 2 n x a && decide (t = 0)) = _
    simp [wT]
  go_enter Tryz.func88, Tryz.ntmps88
  go_wp2
  all_goals
    go_ret
    refine ⟨retb ?_, (Below.refl _ _).alloc (Nat.le_refl _) _⟩
    rw [HW.out]
    first
      | rfl
      | (simp [*]; done)
      | (simp [*]; omega)
set_option maxHeartbeats 2000000 in
theorem fitsT3 (n : Int) (x : ByteArray) (t a : Nat) (w : World) :
    Calls Tryz.prog 88 #[.int .i64 3, .agg #[.string x, .int .i64 n, .int .i64 (t : Nat), .int .i64 (a : Nat)]] w fun e w' => e = .returned (.bool (wT nmB 3 n x a && decide (t = 0))) ∧ Below w.heap.size w w' := by
  have HW : Hid ((wT nmB 3 n x a && decide (t = 0)) = (decide (n = 0) && (x.toList == []) && decide (a = 2) && decide (t = 0))) := by
    show (wT nmB 3 n x a && decide (t = 0)) = _
    simp [wT]
  go_enter Tryz.func88, Tryz.ntmps88
  go_wp2
  all_goals
    go_ret
    refine ⟨retb ?_, (Below.refl _ _).alloc (Nat.le_refl _) _⟩
    rw [HW.out]
    first
      | rfl
      | (simp [*]; done)
      | (simp [*]; omega)
set_option maxHeartbeats 2000000 in
theorem fitsT4 (n : Int) (x : ByteArray) (t a : Nat) (w : World) :
    Calls Tryz.prog 88 #[.int .i64 4, .agg #[.string x, .int .i64 n, .int .i64 (t : Nat), .int .i64 (a : Nat)]] w fun e w' => e = .returned (.bool (wT nmB 4 n x a && decide (t = 0))) ∧ Below w.heap.size w w' := by
  have HW : Hid ((wT nmB 4 n x a && decide (t = 0)) = (decide (n = 0) && (x.toList == []) && decide (a = 2) && decide (t = 0))) := by
    show (wT nmB 4 n x a && decide (t = 0)) = _
    simp [wT]
  go_enter Tryz.func88, Tryz.ntmps88
  go_wp2
  all_goals
    go_ret
    refine ⟨retb ?_, (Below.refl _ _).alloc (Nat.le_refl _) _⟩
    rw [HW.out]
    first
      | rfl
      | (simp [*]; done)
      | (simp [*]; omega)
set_option maxHeartbeats 2000000 in
theorem fitsT5 (n : Int) (x : ByteArray) (t a : Nat) (w : World) :
    Calls Tryz.prog 88 #[.int .i64 5, .agg #[.string x, .int .i64 n, .int .i64 (t : Nat), .int .i64 (a : Nat)]] w fun e w' => e = .returned (.bool (wT nmB 5 n x a && decide (t = 0))) ∧ Below w.heap.size w w' := by
  have HW : Hid ((wT nmB 5 n x a && decide (t = 0)) = (decide (n = 0) && (x.toList == []) && decide (a = 2) && decide (t = 0))) := by
    show (wT nmB 5 n x a && decide (t = 0)) = _
    simp [wT]
  go_enter Tryz.func88, Tryz.ntmps88
  go_wp2
  all_goals
    go_ret
    refine ⟨retb ?_, (Below.refl _ _).alloc (Nat.le_refl _) _⟩
    rw [HW.out]
    first
      | rfl
      | (simp [*]; done)
      | (simp [*]; omega)
set_option maxHeartbeats 2000000 in
theorem fitsTo (o : Int) (n : Int) (x : ByteArray) (t a : Nat) (w : World) (ho : o < 0 ∨ 5 < o) :
    Calls Tryz.prog 88 #[.int .i64 o, .agg #[.string x, .int .i64 n, .int .i64 (t : Nat), .int .i64 (a : Nat)]] w fun e w' => e = .returned (.bool (wT nmB o n x a && decide (t = 0))) ∧ Below w.heap.size w w' := by
  have HW : Hid ((wT nmB o n x a && decide (t = 0)) = (false)) := by
    show (wT nmB o n x a && decide (t = 0)) = _
    unfold wT; rw [if_neg (by omega), if_neg (by omega), if_neg (by omega), if_neg (by omega)]; rfl
  have q0 : ¬ o = 0 := by omega
  have q1 : ¬ o = 1 := by omega
  have q2 : ¬ o = 2 := by omega
  have q3 : ¬ o = 3 := by omega
  have q4 : ¬ o = 4 := by omega
  have q5 : ¬ o = 5 := by omega
  go_enter Tryz.func88, Tryz.ntmps88
  go_wp2
  all_goals
    go_ret
    refine ⟨retb ?_, (Below.refl _ _).alloc (Nat.le_refl _) _⟩
    rw [HW.out]
set_option maxHeartbeats 2000000 in
theorem fitsF0 (n : Int) (x : ByteArray) (t a : Nat) (w : World) :
    Calls Tryz.prog 89 #[.int .i64 0, .agg #[.string x, .int .i64 n, .int .i64 (t : Nat), .int .i64 (a : Nat)]] w fun e w' => e = .returned (.bool (wF nmB 0 x n t a)) ∧ Below w.heap.size w w' := by
  have HW : Hid ((wF nmB 0 x n t a) = ((x.toList == []) && decide (n = 0) && decide (t = 0) && decide (a = 0))) := by
    show (wF nmB 0 x n t a) = _
    simp [wF]
  go_enter Tryz.func89, Tryz.ntmps89
  go_wp2
  all_goals
    go_ret
    refine ⟨retb ?_, (Below.refl _ _).alloc (Nat.le_refl _) _⟩
    rw [HW.out]
    first
      | rfl
      | (simp [*]; done)
      | (simp [*]; omega)
set_option maxHeartbeats 2000000 in
theorem fitsF1 (n : Int) (x : ByteArray) (t a : Nat) (w : World) :
    Calls Tryz.prog 89 #[.int .i64 1, .agg #[.string x, .int .i64 n, .int .i64 (t : Nat), .int .i64 (a : Nat)]] w fun e w' => e = .returned (.bool (wF nmB 1 x n t a)) ∧ Below w.heap.size w w' := by
  have HW : Hid ((wF nmB 1 x n t a) = ((x.toList == []) && decide (n = 0) && decide (t = 0) && decide (a = 0))) := by
    show (wF nmB 1 x n t a) = _
    simp [wF]
  go_enter Tryz.func89, Tryz.ntmps89
  go_wp2
  all_goals
    go_ret
    refine ⟨retb ?_, (Below.refl _ _).alloc (Nat.le_refl _) _⟩
    rw [HW.out]
    first
      | rfl
      | (simp [*]; done)
      | (simp [*]; omega)
set_option maxHeartbeats 2000000 in
theorem fitsF2 (n : Int) (x : ByteArray) (t a : Nat) (w : World) :
    Calls Tryz.prog 89 #[.int .i64 2, .agg #[.string x, .int .i64 n, .int .i64 (t : Nat), .int .i64 (a : Nat)]] w fun e w' => e = .returned (.bool (wF nmB 2 x n t a)) ∧ Below w.heap.size w w' := by
  have HW : Hid ((wF nmB 2 x n t a) = ((x.toList == []) && decide (n = 0) && decide (t = 0) && decide (a = 1))) := by
    show (wF nmB 2 x n t a) = _
    simp [wF]
  go_enter Tryz.func89, Tryz.ntmps89
  go_wp2
  all_goals
    go_ret
    refine ⟨retb ?_, (Below.refl _ _).alloc (Nat.le_refl _) _⟩
    rw [HW.out]
    first
      | rfl
      | (simp [*]; done)
      | (simp [*]; omega)
set_option maxHeartbeats 2000000 in
theorem fitsF3 (n : Int) (x : ByteArray) (t a : Nat) (w : World) :
    Calls Tryz.prog 89 #[.int .i64 3, .agg #[.string x, .int .i64 n, .int .i64 (t : Nat), .int .i64 (a : Nat)]] w fun e w' => e = .returned (.bool (wF nmB 3 x n t a)) ∧ Below w.heap.size w w' := by
  have HW : Hid ((wF nmB 3 x n t a) = ((x.toList == []) && decide (n = 0) && decide (t = 0) && decide (a = 2))) := by
    show (wF nmB 3 x n t a) = _
    simp [wF]
  go_enter Tryz.func89, Tryz.ntmps89
  go_wp2
  all_goals
    go_ret
    refine ⟨retb ?_, (Below.refl _ _).alloc (Nat.le_refl _) _⟩
    rw [HW.out]
    first
      | rfl
      | (simp [*]; done)
      | (simp [*]; omega)
set_option maxHeartbeats 2000000 in
theorem fitsF4 (n : Int) (x : ByteArray) (t a : Nat) (w : World) :
    Calls Tryz.prog 89 #[.int .i64 4, .agg #[.string x, .int .i64 n, .int .i64 (t : Nat), .int .i64 (a : Nat)]] w fun e w' => e = .returned (.bool (wF nmB 4 x n t a)) ∧ Below w.heap.size w w' := by
  have HW : Hid ((wF nmB 4 x n t a) = ((x.toList == []) && decide (n = 0) && decide (t = 0) && decide (a = 2))) := by
    show (wF nmB 4 x n t a) = _
    simp [wF]
  go_enter Tryz.func89, Tryz.ntmps89
  go_wp2
  all_goals
    go_ret
    refine ⟨retb ?_, (Below.refl _ _).alloc (Nat.le_refl _) _⟩
    rw [HW.out]
    first
      | rfl
      | (simp [*]; done)
      | (simp [*]; omega)
set_option maxHeartbeats 2000000 in
theorem fitsF5 (n : Int) (x : ByteArray) (t a : Nat) (w : World) :
    Calls Tryz.prog 89 #[.int .i64 5, .agg #[.string x, .int .i64 n, .int .i64 (t : Nat), .int .i64 (a : Nat)]] w fun e w' => e = .returned (.bool (wF nmB 5 x n t a)) ∧ Below w.heap.size w w' := by
  have HW : Hid ((wF nmB 5 x n t a) = ((x.toList == []) && decide (n = 0) && decide (t = 0) && decide (a = 2))) := by
    show (wF nmB 5 x n t a) = _
    simp [wF]
  go_enter Tryz.func89, Tryz.ntmps89
  go_wp2
  all_goals
    go_ret
    refine ⟨retb ?_, (Below.refl _ _).alloc (Nat.le_refl _) _⟩
    rw [HW.out]
    first
      | rfl
      | (simp [*]; done)
      | (simp [*]; omega)
set_option maxHeartbeats 2000000 in
theorem fitsF6 (n : Int) (x : ByteArray) (t a : Nat) (w : World) :
    Calls Tryz.prog 89 #[.int .i64 6, .agg #[.string x, .int .i64 n, .int .i64 (t : Nat), .int .i64 (a : Nat)]] w fun e w' => e = .returned (.bool (wF nmB 6 x n t a)) ∧ Below w.heap.size w w' := by
  have HW : Hid ((wF nmB 6 x n t a) = ((x.toList == []) && decide (n = 0) && decide (t = 0) && decide (a = 2))) := by
    show (wF nmB 6 x n t a) = _
    simp [wF]
  go_enter Tryz.func89, Tryz.ntmps89
  go_wp2
  all_goals
    go_ret
    refine ⟨retb ?_, (Below.refl _ _).alloc (Nat.le_refl _) _⟩
    rw [HW.out]
    first
      | rfl
      | (simp [*]; done)
      | (simp [*]; omega)
set_option maxHeartbeats 2000000 in
theorem fitsF7 (n : Int) (x : ByteArray) (t a : Nat) (w : World) (hs : Sz x.size) :
    Calls Tryz.prog 89 #[.int .i64 7, .agg #[.string x, .int .i64 n, .int .i64 (t : Nat), .int .i64 (a : Nat)]] w fun e w' => e = .returned (.bool (wF nmB 7 x n t a)) ∧ Below w.heap.size w w' := by
  have HW : Hid ((wF nmB 7 x n t a) = (nmB x && decide (n = 0) && decide (t = 0) && decide (a = 1))) := by
    show (wF nmB 7 x n t a) = _
    simp [wF]
  obtain ⟨b, hb⟩ : ∃ b, nmB x = b := ⟨_, rfl⟩
  have HN := (nmB_iff x)
  rw [hb] at HN
  have RC : Hid (∀ w, Calls Tryz.prog 100 #[.string x] w fun e w' => e = .returned (.bool b) ∧ Below w.heap.size w w') := fun w => name_at x b w hs HN
  have HB : Hid (nmB x = b) := hb
  clear hb HN
  cases b
  · go_enter Tryz.func89, Tryz.ntmps89
    go_wp2_with (go_at_call 100; refine (RC.out _).mono ?_; rintro e w2 ⟨rfl, hB2⟩; have hd := (res_keep hB2).2.2.1; have e0 : w2.cell? ⟨w.heap.size, 0, none⟩ = some (.string x) := hd 0; have e1 : w2.cell? ⟨w.heap.size, 1, none⟩ = some (.int .i64 n) := hd 1; have e2 : w2.cell? ⟨w.heap.size, 2, none⟩ = some (.int .i64 (t : Nat)) := hd 2; have e3 : w2.cell? ⟨w.heap.size, 3, none⟩ = some (.int .i64 (a : Nat)) := hd 3; have hB3 := ba2 hB2; clear hd hB2)
    all_goals
      go_ret
      refine ⟨retb ?_, hB3⟩
      rw [HW.out, HB.out]
      clear RC
      first
        | rfl
        | (simp [*]; done)
        | (simp [*]; omega)
  · go_enter Tryz.func89, Tryz.ntmps89
    go_wp2_with (go_at_call 100; refine (RC.out _).mono ?_; rintro e w2 ⟨rfl, hB2⟩; have hd := (res_keep hB2).2.2.1; have e0 : w2.cell? ⟨w.heap.size, 0, none⟩ = some (.string x) := hd 0; have e1 : w2.cell? ⟨w.heap.size, 1, none⟩ = some (.int .i64 n) := hd 1; have e2 : w2.cell? ⟨w.heap.size, 2, none⟩ = some (.int .i64 (t : Nat)) := hd 2; have e3 : w2.cell? ⟨w.heap.size, 3, none⟩ = some (.int .i64 (a : Nat)) := hd 3; have hB3 := ba2 hB2; clear hd hB2)
    all_goals
      go_ret
      refine ⟨retb ?_, hB3⟩
      rw [HW.out, HB.out]
      clear RC
      first
        | rfl
        | (simp [*]; done)
        | (simp [*]; omega)
set_option maxHeartbeats 2000000 in
theorem fitsF8 (n : Int) (x : ByteArray) (t a : Nat) (w : World) (hs : Sz x.size) :
    Calls Tryz.prog 89 #[.int .i64 8, .agg #[.string x, .int .i64 n, .int .i64 (t : Nat), .int .i64 (a : Nat)]] w fun e w' => e = .returned (.bool (wF nmB 8 x n t a)) ∧ Below w.heap.size w w' := by
  have HW : Hid ((wF nmB 8 x n t a) = (nmB x && decide (n = 0) && decide (t = 0) && decide (a = 1))) := by
    show (wF nmB 8 x n t a) = _
    simp [wF]
  obtain ⟨b, hb⟩ : ∃ b, nmB x = b := ⟨_, rfl⟩
  have HN := (nmB_iff x)
  rw [hb] at HN
  have RC : Hid (∀ w, Calls Tryz.prog 100 #[.string x] w fun e w' => e = .returned (.bool b) ∧ Below w.heap.size w w') := fun w => name_at x b w hs HN
  have HB : Hid (nmB x = b) := hb
  clear hb HN
  cases b
  · go_enter Tryz.func89, Tryz.ntmps89
    go_wp2_with (go_at_call 100; refine (RC.out _).mono ?_; rintro e w2 ⟨rfl, hB2⟩; have hd := (res_keep hB2).2.2.1; have e0 : w2.cell? ⟨w.heap.size, 0, none⟩ = some (.string x) := hd 0; have e1 : w2.cell? ⟨w.heap.size, 1, none⟩ = some (.int .i64 n) := hd 1; have e2 : w2.cell? ⟨w.heap.size, 2, none⟩ = some (.int .i64 (t : Nat)) := hd 2; have e3 : w2.cell? ⟨w.heap.size, 3, none⟩ = some (.int .i64 (a : Nat)) := hd 3; have hB3 := ba2 hB2; clear hd hB2)
    all_goals
      go_ret
      refine ⟨retb ?_, hB3⟩
      rw [HW.out, HB.out]
      clear RC
      first
        | rfl
        | (simp [*]; done)
        | (simp [*]; omega)
  · go_enter Tryz.func89, Tryz.ntmps89
    go_wp2_with (go_at_call 100; refine (RC.out _).mono ?_; rintro e w2 ⟨rfl, hB2⟩; have hd := (res_keep hB2).2.2.1; have e0 : w2.cell? ⟨w.heap.size, 0, none⟩ = some (.string x) := hd 0; have e1 : w2.cell? ⟨w.heap.size, 1, none⟩ = some (.int .i64 n) := hd 1; have e2 : w2.cell? ⟨w.heap.size, 2, none⟩ = some (.int .i64 (t : Nat)) := hd 2; have e3 : w2.cell? ⟨w.heap.size, 3, none⟩ = some (.int .i64 (a : Nat)) := hd 3; have hB3 := ba2 hB2; clear hd hB2)
    all_goals
      go_ret
      refine ⟨retb ?_, hB3⟩
      rw [HW.out, HB.out]
      clear RC
      first
        | rfl
        | (simp [*]; done)
        | (simp [*]; omega)
set_option maxHeartbeats 2000000 in
theorem fitsF9 (n : Int) (x : ByteArray) (t a : Nat) (w : World) :
    Calls Tryz.prog 89 #[.int .i64 9, .agg #[.string x, .int .i64 n, .int .i64 (t : Nat), .int .i64 (a : Nat)]] w fun e w' => e = .returned (.bool (wF nmB 9 x n t a)) ∧ Below w.heap.size w w' := by
  have HW : Hid ((wF nmB 9 x n t a) = ((x.toList == []) && decide (n = 0) && decide (t = 2) && decide (a = 0))) := by
    show (wF nmB 9 x n t a) = _
    simp [wF]
  go_enter Tryz.func89, Tryz.ntmps89
  go_wp2
  all_goals
    go_ret
    refine ⟨retb ?_, (Below.refl _ _).alloc (Nat.le_refl _) _⟩
    rw [HW.out]
    first
      | rfl
      | (simp [*]; done)
      | (simp [*]; omega)
set_option maxHeartbeats 2000000 in
theorem fitsF10 (n : Int) (x : ByteArray) (t a : Nat) (w : World) :
    Calls Tryz.prog 89 #[.int .i64 10, .agg #[.string x, .int .i64 n, .int .i64 (t : Nat), .int .i64 (a : Nat)]] w fun e w' => e = .returned (.bool (wF nmB 10 x n t a)) ∧ Below w.heap.size w w' := by
  have HW : Hid ((wF nmB 10 x n t a) = ((x.toList == []) && decide (n = 0) && decide (t = 2) && decide (a = 0))) := by
    show (wF nmB 10 x n t a) = _
    simp [wF]
  go_enter Tryz.func89, Tryz.ntmps89
  go_wp2
  all_goals
    go_ret
    refine ⟨retb ?_, (Below.refl _ _).alloc (Nat.le_refl _) _⟩
    rw [HW.out]
    first
      | rfl
      | (simp [*]; done)
      | (simp [*]; omega)
set_option maxHeartbeats 2000000 in
theorem fitsF11 (n : Int) (x : ByteArray) (t a : Nat) (w : World) :
    Calls Tryz.prog 89 #[.int .i64 11, .agg #[.string x, .int .i64 n, .int .i64 (t : Nat), .int .i64 (a : Nat)]] w fun e w' => e = .returned (.bool (wF nmB 11 x n t a)) ∧ Below w.heap.size w w' := by
  have HW : Hid ((wF nmB 11 x n t a) = ((x.toList == []) && decide (n = 0) && decide (t = 2) && decide (a = 0))) := by
    show (wF nmB 11 x n t a) = _
    simp [wF]
  go_enter Tryz.func89, Tryz.ntmps89
  go_wp2
  all_goals
    go_ret
    refine ⟨retb ?_, (Below.refl _ _).alloc (Nat.le_refl _) _⟩
    rw [HW.out]
    first
      | rfl
      | (simp [*]; done)
      | (simp [*]; omega)
set_option maxHeartbeats 2000000 in
theorem fitsF12 (n : Int) (x : ByteArray) (t a : Nat) (w : World) :
    Calls Tryz.prog 89 #[.int .i64 12, .agg #[.string x, .int .i64 n, .int .i64 (t : Nat), .int .i64 (a : Nat)]] w fun e w' => e = .returned (.bool (wF nmB 12 x n t a)) ∧ Below w.heap.size w w' := by
  have HW : Hid ((wF nmB 12 x n t a) = ((x.toList == []) && decide (n = 0) && decide (t = 2) && decide (a = 0))) := by
    show (wF nmB 12 x n t a) = _
    simp [wF]
  go_enter Tryz.func89, Tryz.ntmps89
  go_wp2
  all_goals
    go_ret
    refine ⟨retb ?_, (Below.refl _ _).alloc (Nat.le_refl _) _⟩
    rw [HW.out]
    first
      | rfl
      | (simp [*]; done)
      | (simp [*]; omega)
set_option maxHeartbeats 2000000 in
theorem fitsF13 (n : Int) (x : ByteArray) (t a : Nat) (w : World) :
    Calls Tryz.prog 89 #[.int .i64 13, .agg #[.string x, .int .i64 n, .int .i64 (t : Nat), .int .i64 (a : Nat)]] w fun e w' => e = .returned (.bool (wF nmB 13 x n t a)) ∧ Below w.heap.size w w' := by
  have HW : Hid ((wF nmB 13 x n t a) = ((x.toList == []) && decide (n = 0) && decide (t = 2) && decide (a = 0))) := by
    show (wF nmB 13 x n t a) = _
    simp [wF]
  go_enter Tryz.func89, Tryz.ntmps89
  go_wp2
  all_goals
    go_ret
    refine ⟨retb ?_, (Below.refl _ _).alloc (Nat.le_refl _) _⟩
    rw [HW.out]
    first
      | rfl
      | (simp [*]; done)
      | (simp [*]; omega)
set_option maxHeartbeats 2000000 in
theorem fitsF14 (n : Int) (x : ByteArray) (t a : Nat) (w : World) :
    Calls Tryz.prog 89 #[.int .i64 14, .agg #[.string x, .int .i64 n, .int .i64 (t : Nat), .int .i64 (a : Nat)]] w fun e w' => e = .returned (.bool (wF nmB 14 x n t a)) ∧ Below w.heap.size w w' := by
  have HW : Hid ((wF nmB 14 x n t a) = ((x.toList == []) && decide (n = 0) && decide (t = 2) && decide (a = 0))) := by
    show (wF nmB 14 x n t a) = _
    simp [wF]
  go_enter Tryz.func89, Tryz.ntmps89
  go_wp2
  all_goals
    go_ret
    refine ⟨retb ?_, (Below.refl _ _).alloc (Nat.le_refl _) _⟩
    rw [HW.out]
    first
      | rfl
      | (simp [*]; done)
      | (simp [*]; omega)
set_option maxHeartbeats 2000000 in
theorem fitsF15 (n : Int) (x : ByteArray) (t a : Nat) (w : World) :
    Calls Tryz.prog 89 #[.int .i64 15, .agg #[.string x, .int .i64 n, .int .i64 (t : Nat), .int .i64 (a : Nat)]] w fun e w' => e = .returned (.bool (wF nmB 15 x n t a)) ∧ Below w.heap.size w w' := by
  have HW : Hid ((wF nmB 15 x n t a) = ((x.toList == []) && decide (1 ≤ n) && decide (t = 2) && decide (a = 0))) := by
    show (wF nmB 15 x n t a) = _
    simp [wF]
  go_enter Tryz.func89, Tryz.ntmps89
  go_wp2
  all_goals
    go_ret
    refine ⟨retb ?_, (Below.refl _ _).alloc (Nat.le_refl _) _⟩
    rw [HW.out]
    first
      | rfl
      | (simp [*]; done)
      | (simp [*]; omega)
set_option maxHeartbeats 2000000 in
theorem fitsFo (o : Int) (n : Int) (x : ByteArray) (t a : Nat) (w : World) (ho : o < 0 ∨ 15 < o) :
    Calls Tryz.prog 89 #[.int .i64 o, .agg #[.string x, .int .i64 n, .int .i64 (t : Nat), .int .i64 (a : Nat)]] w fun e w' => e = .returned (.bool (wF nmB o x n t a)) ∧ Below w.heap.size w w' := by
  have HW : Hid ((wF nmB o x n t a) = (false)) := by
    show (wF nmB o x n t a) = _
    unfold wF; rw [if_neg (by omega), if_neg (by omega), if_neg (by omega)]
  have q0 : ¬ o = 0 := by omega
  have q1 : ¬ o = 1 := by omega
  have q2 : ¬ o = 2 := by omega
  have q3 : ¬ o = 3 := by omega
  have q4 : ¬ o = 4 := by omega
  have q5 : ¬ o = 5 := by omega
  have q6 : ¬ o = 6 := by omega
  have q7 : ¬ o = 7 := by omega
  have q8 : ¬ o = 8 := by omega
  have q9 : ¬ o = 9 := by omega
  have q10 : ¬ o = 10 := by omega
  have q11 : ¬ o = 11 := by omega
  have q12 : ¬ o = 12 := by omega
  have q13 : ¬ o = 13 := by omega
  have q14 : ¬ o = 14 := by omega
  have q15 : ¬ o = 15 := by omega
  go_enter Tryz.func89, Tryz.ntmps89
  go_wp2
  all_goals
    go_ret
    refine ⟨retb ?_, (Below.refl _ _).alloc (Nat.le_refl _) _⟩
    rw [HW.out]
end Go.Proofs.YtabfhdmcljdjhaaGreatDoor.Gl
