/- Layer 3: Length, the digits of a number; slices that read as lists. -/
import Derived.Test.YtkanjgphmafjbaaWoLen
import Derived.WalkKit
import Derived.WalkLawsBesides
import Derived.WalkSpells
import Derived.Laws.AppendOwnNone
import Derived.Laws.BitsAllLaws
import Derived.Deep.Light
import Derived.OneCell
import Derived.OwnWalk
import Derived.Laws.OwnMore
import Derived.RegionTactic
import Derived.ChangeAlike
import Derived.Deep.QuietTactic
import Derived.BigQuiet
namespace Go.Proofs.Ytkanjgphmafjbaa.Wo
open Go.RowKit
set_option linter.unusedVariables false

theorem ret1 {a c : Int} (h : a = c) : Ending.returned (.int .i64 a) = .returned (.int .i64 c) := by rw [h]
theorem ret2 {a b c d : Int} (h : a = c) (k : b = d) : Ending.returned (.tuple #[.int .i64 a, .int .i64 b]) = .returned (.tuple #[.int .i64 c, .int .i64 d]) := by rw [h, k]
theorem retb {a c : Bool} (h : a = c) : Ending.returned (.bool a) = .returned (.bool c) := by rw [h]
theorem xor_neg (v : Int) (l : -9223372036854775808 ≤ v) (u : v ≤ 9223372036854775807) : bits .xor .i64 (-1) v = -v - 1 := by
  show IntKind.i64.wrap ((BitVec.ofInt 64 (-1) ^^^ BitVec.ofInt 64 v).toNat : Int) = _
  rw [show BitVec.ofInt 64 (-1) = BitVec.allOnes 64 from by decide, BitVec.allOnes_xor, BitVec.toNat_not, BitVec.toNat_ofInt, IntKind.wrap_i64]
  omega
theorem length_at (v : Int) (w : World) (l : -9223372036854775808 ≤ v) (u : v ≤ 9223372036854775807) :
    Calls Try.prog 14 #[.int .i64 v] w fun e w' => e = .returned (.int .i64 (ln v : Nat)) ∧ w = w' := by
  have hl : mag v < 2 ^ 64 := by unfold mag; split <;> omega
  have hb := (bl_le (mag v) 64).2 hl
  have HL : Hid ((ln v : Nat) = bl (mag v) + 1) := rfl
  have HB : Hid (mag v < 2 ^ 64) := hl
  obtain ⟨m, hm⟩ : ∃ m, mag v = m := ⟨_, rfl⟩
  have hm' : (m : Int) = if v < 0 then -v - 1 else v := by rw [← hm]; unfold mag; split <;> omega
  rw [hm] at HL HB hb
  clear hm hl
  by_cases h : v < 0
  · have hx : IntKind.u64.wrap (bits .xor .i64 (-1) v) = (m : Int) := by
      rw [xor_neg v l u, IntKind.wrap_u64, hm', if_pos h]; omega
    have hsg : IntKind.i64.signed = true := rfl
    clear hm'
    go_enter Try.func14, Try.ntmps14
    go_wp2_with (go_at_call 36; refine (len64_at m _ HB.out).mono ?_; rintro e w' ⟨rfl, rfl⟩)
    go_ret
    exact ⟨ret1 (by rw [HL.out]; omega), rfl⟩
  · rw [if_neg h] at hm'
    subst hm'
    clear h l
    go_enter Try.func14, Try.ntmps14
    go_wp2_with (go_at_call 36; refine (len64_at m _ HB.out).mono ?_; rintro e w' ⟨rfl, rfl⟩)
    go_ret
    exact ⟨ret1 (by rw [HL.out]; omega), rfl⟩
theorem and_one (x : Int) : bits .and .i64 x 1 = x % 2 := by
  show IntKind.i64.wrap ((BitVec.ofInt 64 x &&& BitVec.ofInt 64 1).toNat : Int) = _
  rw [BitVec.toNat_and, BitVec.toNat_ofInt, show (BitVec.ofInt 64 1).toNat = 1 from by decide, Nat.and_one_is_mod, IntKind.wrap_i64]
  omega
theorem digitOf_at (v : Int) (i : Nat) (w : World) (hi : i < 64) :
    Calls Try.prog 30 #[.int .i64 v, .int .i64 i] w fun e w' => e = .returned (.int .i64 (dgt v i)) ∧ w = w' := by
  go_enter Try.func30, Try.ntmps30
  go_wp2
  go_ret
  exact ⟨ret1 (by rw [and_one]; rfl), rfl⟩

/-- the slice reads as the numbers zs -/
structure RdZ (w : World) (ao : Option Addr) (len cap : Nat) (zs : List Int) : Prop where
  eqlen : zs.length = len
  lecap : len ≤ cap
  lemax : cap ≤ 9223372036854775807
  isnil : ao = none → cap = 0
  cell : ∀ i, i < len → ∃ b off, ao = some ⟨b, off, none⟩ ∧ w.cell? ⟨b, off + i, none⟩ = some (.int .i64 (zs.getD i 0))
theorem RdZ.below {w w' : World} {ao : Option Addr} {len cap : Nat} {zs : List Int} (h : RdZ w ao len cap zs) {B : Nat} (hB : w.heap.size ≤ B) (hb : Below B w w') : RdZ w' ao len cap zs := by
  refine ⟨h.eqlen, h.lecap, h.lemax, h.isnil, fun i hi => ?_⟩
  obtain ⟨b, off, rfl, hc⟩ := h.cell i hi
  have hlt := World.block_lt_of_cell? _ _ hc
  exact ⟨b, off, rfl, (hb.cell (p := ⟨b, off + i, none⟩) (Nat.lt_of_lt_of_le hlt hB)).trans hc⟩
theorem rdz_nil (w : World) : RdZ w none 0 0 [] := ⟨rfl, Nat.le_refl _, by omega, fun _ => rfl, fun i hi => by omega⟩
abbrev cellsZ (zs : List Int) : List Value := zs.map (Value.int .i64)
theorem rdz_of_owns {w : World} {base : Nat} {t : TypeId} {v : Value} {k : Nat} {zs : List Int} (h : w.ownsRow base t 1 v k (cellsZ zs)) : ∃ ro cr, v = .slice ro k cr ∧ RdZ w ro k cr zs := by
  have h' := h
  obtain ⟨hl, hv⟩ := h'
  simp only [List.length_map, Nat.mul_one] at hl
  rcases hv with ⟨rfl, hn⟩ | ⟨g, cap, cur, rfl, hg, hh, hnc, hcm, hcs, hx⟩
  · subst hn
    exact ⟨none, 0, rfl, hl, Nat.le_refl _, by omega, fun _ => rfl, fun i hi => by omega⟩
  · refine ⟨some ⟨g, 0, none⟩, cap, rfl, hl, hnc, hcm, (fun h => nomatch h), (fun i hi => ⟨g, 0, rfl, ?_⟩)⟩
    rw [Nat.zero_add, h.cellAt i (by omega), List.getElem?_map, List.getElem?_eq_getElem (by omega)]
    simp [List.getD_eq_getElem?_getD, List.getElem?_eq_getElem (show i < zs.length by omega)]
theorem ownsZ_cell {w : World} {base g n cap : Nat} {t : TypeId} {O : List Int} (h : w.ownsRow base t 1 (.slice (some ⟨g, 0, none⟩) n cap) n (cellsZ O)) (p : Nat) (hp : p < n) : w.cell? ⟨g, p, none⟩ = some (.int .i64 (O.getD p 0)) := by
  have hl := h.1
  simp only [List.length_map, Nat.mul_one] at hl
  rw [h.cellAt p (by omega), List.getElem?_map, List.getElem?_eq_getElem (by omega)]
  simp [List.getD_eq_getElem?_getD, List.getElem?_eq_getElem (show p < O.length by omega)]
theorem made_zeros (n : Nat) : (madeCells (Value.int .i64 0).cells (n * 1)).toList = cellsZ (List.replicate n 0) := by
  show (madeCells #[Value.int .i64 0] (n * 1)).toList = _
  rw [toList_madeCells_one]; simp [cellsZ]
theorem Try.infoInt : (Try.prog.info? 3).map (fun i => (i.zero, i.size, i.bytes)) = some (some (.int .i64 0), 1, 8) := by kernel_rfl
theorem Try.infoI64 : (Try.prog.info? 2).map (fun i => (i.zero, i.size, i.bytes)) = some (some (.int .i64 0), 1, 8) := by kernel_rfl
/-- zs with its first k numbers those of us -/
def front (us zs : List Int) (k : Nat) : List Int := us.take k ++ zs.drop k
theorem front_set (us zs : List Int) (k : Nat) (h : us.length = zs.length) (hk : k < us.length) : (front us zs k).set k (us.getD k 0) = front us zs (k + 1) := by
  unfold front
  rw [List.set_append_right _ _ (by rw [List.length_take]; omega), List.length_take, Nat.min_eq_left (by omega), Nat.sub_self, List.drop_eq_getElem_cons (show k < zs.length by omega), List.set_cons_zero, List.take_succ_eq_append_getElem hk, getD_of hk, List.append_assoc, List.singleton_append]
theorem front_zero (us zs : List Int) : front us zs 0 = zs := by simp [front]
theorem front_all (us zs : List Int) (n : Nat) (h : us.length = n) (h' : zs.length = n) : front us zs n = us := by
  unfold front; rw [List.take_of_length_le (by omega), List.drop_of_length_le (by omega), List.append_nil]
theorem cells_set (O : List Int) (p : Nat) (q : Int) : (cellsZ O).set p (.int .i64 q) = cellsZ (O.set p q) := by unfold cellsZ; rw [List.map_set]

theorem owns_below {w w' : World} {base : Nat} {e : TypeId} {v : Value} {n : Nat} {xs : List Value} (h : w.ownsRow base e 1 v n xs) (hb : Below w.heap.size w w') : w'.ownsRow base e 1 v n xs := by
  refine ⟨h.1, ?_⟩
  rcases h.2 with hn | ⟨g, cap, cur, rfl, hbg, hgg, rest⟩
  · exact .inl hn
  · refine .inr ⟨g, cap, cur, rfl, hbg, ?_, rest⟩
    rw [hb.block g (Array.getElem?_eq_some_iff.1 hgg).1]
    exact hgg
theorem of_eq {B : Nat} {w w' : World} (h : w = w') : Below B w w' := by subst h; exact Below.refl _ _
theorem cell_new1 (W : World) (v : Value) (t : TypeId) : (W.alloc (.cells #[v] t)).cell? ⟨W.heap.size, 0, none⟩ = some v := by simp
theorem size_new1 {W : World} {n : Nat} (h : n ≤ W.heap.size) (a : Obj) : n ≤ (W.alloc a).heap.size := by simp; omega
/-- 'out = append(out, d)', the new element in a block g of its own -/
theorem wp_pushZ {ops : Array Oper} {rest : List Oper} {o : Oper} {a : Act} {Q : Exit → Act → World → Prop} (W0 Wc : World) (B base : Nat) (hgd : o.guard = none) (s x : Operand)
    (ho : o.op = .call { callee := .builtin .append, args := #[s, x], argTypes := #[22, 22] }) (v : Value) (k : Nat) (O : List Int) (hs : a.eval s = v) (g : Nat) (d : Int) (hx : a.eval x = .slice (some ⟨g, 0, none⟩) 1 1)
    (hown : Wc.ownsRow base 3 1 v k (cellsZ O)) (hcell : Wc.cell? ⟨g, 0, none⟩ = some (.int .i64 d)) (hbase : base ≤ Wc.heap.size) (hk : (k + 1) * 8 ≤ 140737488355328) (hbel : Below B W0 Wc) (hB : B ≤ base)
    (h : ∀ v' w', w'.ownsRow base 3 1 v' (k + 1) (cellsZ (O ++ [d])) → Below B W0 w' → wpList Try.prog ops Q rest (a.put o.dst v') w') : wpList Try.prog ops Q (o :: rest) a Wc := by
  obtain ⟨i0, hi, hz0, hz1, hz2⟩ := info_parts Try.infoInt
  refine wpList_append_own _ hgd s x 22 ho base 3 i0 (.int .i64 0) 1 8 Try.underlying22 hi hz0 hz1 hz2 rfl (by decide) _ k _ hs hown ⟨g, 0, none⟩ 1 1 [.int .i64 d] hx rfl ?_ ?_ (by unfold maxLen; omega) (by omega) hbase ?_
  · intro j u hj
    match j, hj with
    | 0, hj => simp at hj; subst hj; simpa [Addr.add] using hcell
  · intro u hu; simp at hu; subst hu; rfl
  · intro v' w' h1 h2 _
    refine h v' w' (by simpa [cellsZ] using h1) (hbel.grown h2 (by omega) ?_)
    intro q hq
    have := hown.lt q hq
    omega
/-- 'append([]int{}, x...)': a new slice of the same numbers; nothing old has turned. -/
theorem wp_copyZ {ops : Array Oper} {rest : List Oper} {o : Oper} {a : Act} {Q : Exit → Act → World → Prop} (w0 W : World) (hgd : o.guard = none) (s x : Operand)
    (ho : o.op = .call { callee := .builtin .append, args := #[s, x], argTypes := #[22, 22] }) (hbel : Below w0.heap.size w0 W)
    (hs : a.eval s = .slice (some ⟨W.heap.size, 0, none⟩) 0 0) (ao : Option Addr) (m c : Nat) (zs : List Int) (hx : a.eval x = .slice ao m c) (hR : RdZ W ao m c zs) (hm : m * 8 ≤ 140737488351232)
    (h : ∀ a' c' w', RdZ w' a' m c' zs → Below W.heap.size W w' → w'.ownsRow W.heap.size 3 1 (.slice a' m c') m (cellsZ zs) → wpList Try.prog ops Q rest (a.put o.dst (.slice a' m c')) w') : wpList Try.prog ops Q (o :: rest) a (W.alloc (.cells #[] 3)) := by
  obtain ⟨i0, hi, hz0, hz1, hz2⟩ := info_parts Try.infoInt
  have hown := World.ownsRow_made (base := W.heap.size) (e := 3) (size := 1) W #[] 0 (Nat.le_refl _) (Nat.zero_le _) (by simp)
  cases ao with
  | none =>
    have hc0 := hR.isnil rfl
    have hl := hR.lecap
    obtain rfl : c = 0 := hc0
    obtain rfl : m = 0 := by omega
    have hz : zs = [] := List.length_eq_zero_iff.1 hR.eqlen
    subst hz
    refine wpList_append_own_none hgd s x 22 ho W.heap.size 3 i0 1 Try.underlying22 hi _ 0 [] hs hown hx ?_
    obtain ⟨ro, cr, hv, hR'⟩ := rdz_of_owns (zs := []) (by simpa using hown)
    rw [hv]
    exact h _ _ _ hR' ((Below.refl _ _).alloc (Nat.le_refl _) _) (by rw [← hv]; exact hown)
  | some ad =>
    refine wpList_append_own _ hgd s x 22 ho W.heap.size 3 i0 (.int .i64 0) 1 8 Try.underlying22 hi hz0 hz1 hz2 rfl (by decide) _ 0 [] hs hown ad m c (cellsZ zs) hx (by simp [hR.eqlen]) ?_ (ints_oneCell _ _) (by unfold maxLen; omega) (by omega) ?_ ?_
    · intro j u hj
      rw [List.getElem?_map] at hj
      by_cases hjl : j < zs.length
      · rw [List.getElem?_eq_getElem hjl] at hj
        simp only [Option.map_some, Option.some.injEq] at hj
        subst hj
        obtain ⟨b, off, e, h1⟩ := hR.cell j (by rw [← hR.eqlen]; exact hjl)
        simp only [Option.some.injEq] at e
        subst e
        rw [List.getD_eq_getElem?_getD, List.getElem?_eq_getElem hjl] at h1
        rw [Go.WideShapes.add_plain, World.cell?_of_block (Below.heap_alloc _ _ _ (World.block_lt_of_cell? _ _ h1))]
        exact h1
      · rw [List.getElem?_eq_none (by omega)] at hj
        simp at hj
    · rw [World.size_alloc]; omega
    · intro v' w' h2 h3 h4
      rw [List.nil_append, Nat.zero_add] at h2
      obtain ⟨ro, cr, rfl, hR'⟩ := rdz_of_owns h2
      refine h _ _ w' hR' ?_ h2
      refine ((Below.refl _ _).alloc (Nat.le_refl _) _).grown h3 (by rw [World.size_alloc]; omega) ?_
      intro k hk
      simp only [Value.ownBlock, Option.some.injEq] at hk
      omega
set_option maxHeartbeats 2000000 in
theorem same_at (ao ao' : Option Addr) (n c m c' : Nat) (T U : List Int) (r : Bool) (w : World) (h : RdZ w ao n c T) (k : RdZ w ao' m c' U) (hr : r = true ↔ T = U) :
    Calls Try.prog 15 #[.slice ao n c, .slice ao' m c'] w fun e w' => e = .returned (.bool r) ∧ Below w.heap.size w w' := by
  have hcn := h.lecap
  have hcx := h.lemax
  have hcm := k.lecap
  have hmx := k.lemax
  have HT : Hid (T.length = n) := h.eqlen
  have HU : Hid (U.length = m) := k.eqlen
  have HR : Hid (r = true ↔ T = U) := hr
  clear hr
  by_cases hnm : n = m
  · subst hnm
    go_enter Try.func15, Try.ntmps15
    go_wp2
    go_loopw [13] (fun i wr => ∃ j : Nat, j ≤ n ∧ i = .int .i64 j ∧ Hid (∀ a, a < j → T.getD a 0 = U.getD a 0) ∧ Below w.heap.size w wr) (fun i _ => n - (intOf i).toNat)
    case atStart => exact ⟨0, Nat.zero_le _, rfl, fun a ha => absurd ha (by omega), Below.refl _ _⟩
    case round =>
      obtain ⟨j, hj, rfl, hall, hnx⟩ := hrel
      by_cases hlt : j < n
      · obtain ⟨g, o, rfl, hb⟩ := h.cell j hlt
        obtain ⟨g', o', rfl, hc⟩ := k.cell j hlt
        have hb' := (hnx.cell (World.block_lt_of_cell? _ _ hb)).trans hb
        have hc' := (hnx.cell (World.block_lt_of_cell? _ _ hc)).trans hc
        have hnd := hnx.drew
        clear hb hc
        by_cases he : T.getD j 0 = U.getD j 0
        · have HE : Hid (T.getD j 0 = U.getD j 0) := he
          rw [he] at hb'
          clear he
          obtain ⟨y, hy⟩ : ∃ y, U.getD j 0 = y := ⟨_, rfl⟩
          rw [hy] at hb' hc'
          clear hy
          go_wp2
          go_region
          go_wp2
          go_roundw
          case rel =>
            refine ⟨j + 1, by omega, by go_num, fun a ha => ?_, hnd⟩
            rcases Nat.lt_succ_iff_lt_or_eq.1 ha with ha | rfl
            · exact hall.out a ha
            · exact HE.out
          case measure => simp [intOf]; omega
        · have HE : Hid (r = false) := by
            cases r with
            | false => rfl
            | true => exact absurd (by rw [HR.out.1 rfl]) he
          obtain ⟨x, hx⟩ : ∃ x, T.getD j 0 = x := ⟨_, rfl⟩
          obtain ⟨y, hy⟩ : ∃ y, U.getD j 0 = y := ⟨_, rfl⟩
          rw [hx] at hb' he
          rw [hy] at hc' he
          clear hx hy
          go_wp2
          go_region
          go_wp2
          go_ret
          exact ⟨retb HE.out.symm, hnd⟩
      · obtain rfl : j = n := by omega
        have HE : Hid (r = true) := HR.out.2 (list_eq j HT.out HU.out hall.out)
        go_wp2
        go_ret
        exact ⟨retb HE.out.symm, hnx⟩
  · have HE : Hid (r = false) := by
      cases r with
      | false => rfl
      | true => exact absurd (by rw [← HT.out, HR.out.1 rfl, HU.out]) hnm
    have hnm' : ¬ (n : Int) = (m : Int) := by omega
    have hB0 := Below.refl w.heap.size w
    go_enter Try.func15, Try.ntmps15
    go_wp2
    go_ret
    exact ⟨retb HE.out.symm, hB0⟩
end Go.Proofs.Ytkanjgphmafjbaa.Wo
