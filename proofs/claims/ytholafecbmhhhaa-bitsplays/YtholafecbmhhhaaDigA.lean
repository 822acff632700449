/- The document's digits and letters: Digits, Letter, Digit. -/
import Derived.Test.YtholafecbmhhhaaProg
import Derived.Test.YtholafecbmhhhaaDigMath
import Derived.WalkKit
import Derived.WalkLawsBesides
import Derived.WalkSpells
import Derived.Laws.AppendOwnNone
import Derived.Deep.Light
namespace Go.Proofs.Ytholafecbmhhhaa.Dg
open Go.RowKit
set_option linter.unusedVariables false

theorem Try.infoInt : (Try.prog.info? 3).map (fun i => (i.zero, i.size, i.bytes)) = some (some (.int .i64 0), 1, 8) := by kernel_rfl
abbrev cellsI (O : List Nat) : List Value := O.map (fun d : Nat => Value.int .i64 (d : Int))

/-- the slice reads as the numbers ds -/
structure Rd (w : World) (ao : Option Addr) (len cap : Nat) (ds : List Nat) : Prop where
  eqlen : ds.length = len
  lecap : len ≤ cap
  lemax : cap ≤ 9223372036854775807
  isnil : ao = none → cap = 0
  cell : ∀ i, i < len → ∃ b off, ao = some ⟨b, off, none⟩ ∧ w.cell? ⟨b, off + i, none⟩ = some (.int .i64 ((ds.getD i 0 : Nat) : Int))
theorem Rd.below {w w' : World} {ao : Option Addr} {len cap : Nat} {ds : List Nat} (h : Rd w ao len cap ds) {B : Nat} (hB : w.heap.size ≤ B) (hb : Below B w w') : Rd w' ao len cap ds := by
  refine ⟨h.eqlen, h.lecap, h.lemax, h.isnil, fun i hi => ?_⟩
  obtain ⟨b, off, rfl, hc⟩ := h.cell i hi
  have hlt := World.block_lt_of_cell? _ _ hc
  exact ⟨b, off, rfl, (hb.cell (p := ⟨b, off + i, none⟩) (Nat.lt_of_lt_of_le hlt hB)).trans hc⟩
theorem rd_of_owns {w : World} {base : Nat} {v : Value} {k : Nat} {O : List Nat} (h : w.ownsRow base 3 1 v k (cellsI O)) : ∃ ro cr, v = .slice ro k cr ∧ Rd w ro k cr O := by
  have h' := h
  obtain ⟨hl, hv⟩ := h'
  simp only [List.length_map, Nat.mul_one] at hl
  rcases hv with ⟨rfl, hn⟩ | ⟨g, cap, cur, rfl, hg, hh, hnc, hcm, hcs, hx⟩
  · subst hn
    exact ⟨none, 0, rfl, hl, Nat.le_refl _, by omega, fun _ => rfl, fun i hi => by omega⟩
  · refine ⟨some ⟨g, 0, none⟩, cap, rfl, hl, hnc, hcm, (fun h => nomatch h), (fun i hi => ⟨g, 0, rfl, ?_⟩)⟩
    rw [Nat.zero_add, h.cellAt i (by omega), List.getElem?_map, List.getElem?_eq_getElem (by omega)]
    simp [List.getD_eq_getElem?_getD, List.getElem?_eq_getElem (show i < O.length by omega)]

/-- 'out = append(out, d)', the new element in a block g of its own -/
theorem wp_pushI {ops : Array Oper} {rest : List Oper} {o : Oper} {a : Act} {Q : Exit → Act → World → Prop} (W0 Wc : World) (B base : Nat) (hgd : o.guard = none) (s x : Operand)
    (ho : o.op = .call { callee := .builtin .append, args := #[s, x], argTypes := #[54, 54] }) (v : Value) (k : Nat) (O : List Nat) (hs : a.eval s = v) (g : Nat) (d : Nat) (c : Int) (hx : a.eval x = .slice (some ⟨g, 0, none⟩) 1 1)
    (hown : Wc.ownsRow base 3 1 v k (cellsI O)) (hcell : Wc.cell? ⟨g, 0, none⟩ = some (.int .i64 c)) (hd : c = (d : Int)) (hbase : base ≤ Wc.heap.size) (hk : k ≤ 1000000) (hbel : Below B W0 Wc) (hB : B ≤ base)
    (h : ∀ v' w', w'.ownsRow base 3 1 v' (k + 1) (cellsI (O ++ [d])) → Below B W0 w' → wpList Try.prog ops Q rest (a.put o.dst v') w') : wpList Try.prog ops Q (o :: rest) a Wc := by
  subst hd
  obtain ⟨i0, hi, hz0, hz1, hz2⟩ := info_parts Try.infoInt
  refine wpList_append_own _ hgd s x 54 ho base 3 i0 (.int .i64 0) 1 8 Try.underlying54 hi hz0 hz1 hz2 rfl (by decide) _ k _ hs hown ⟨g, 0, none⟩ 1 1 [.int .i64 (d : Int)] hx rfl ?_ ?_ (by unfold maxLen; omega) (by omega) hbase ?_
  · intro j u hj
    match j, hj with
    | 0, hj => simp at hj; subst hj; simpa [Addr.add] using hcell
  · intro u hu; simp at hu; subst hu; rfl
  · intro v' w' h1 h2 _
    refine h v' w' (by simpa [cellsI] using h1) (hbel.grown h2 (by omega) ?_)
    intro q hq
    have := hown.lt q hq
    omega
theorem cell_new1 (W : World) (v : Value) (t : TypeId) : (W.alloc (.cells #[v] t)).cell? ⟨W.heap.size, 0, none⟩ = some v := by simp
theorem size_new1 {W : World} {n : Nat} (h : n ≤ W.heap.size) (a : Obj) : n ≤ (W.alloc a).heap.size := by simp; omega

theorem step_half (L n : Nat) : L / 2 ^ n / 2 = L / 2 ^ (n + 1) := by rw [Nat.div_div_eq_div_mul, Nat.pow_succ]

set_option maxHeartbeats 1000000 in
theorem digits_at (L n : Nat) (w : World) (hL : L ≤ 9223372036854775807) (hn : n ≤ 1000) :
    Calls Try.prog 51 #[.int .i64 L, .int .i64 n] w fun e w' => ∃ v, e = .returned v ∧ w'.ownsRow w.heap.size 3 1 v n (cellsI (digs L n)) ∧ Below w.heap.size w w' := by
  go_enter Try.func51, Try.ntmps51
  go_wp2
  go_loopw [0, 5, 6] (fun l v i wr => ∃ k : Nat, k ≤ n ∧ i = .int .i64 k ∧ l = .int .i64 ((L / 2 ^ k : Nat) : Int) ∧ wr.ownsRow w.heap.size 3 1 v k (cellsI (digs L k)) ∧ Below w.heap.size w wr) (fun _ _ i _ => n - (intOf i).toNat)
  case atStart => exact ⟨0, Nat.zero_le _, rfl, by simp, World.ownsRow_nil _ _ _ _, Below.refl _ _⟩
  case round =>
    obtain ⟨k, hk, rfl, rfl, hown, hnx⟩ := hrel
    have hle : L / 2 ^ k ≤ L := Nat.div_le_self _ _
    have hds := digs_succ L k
    have hhf := step_half L k
    obtain ⟨M, hM⟩ : ∃ M, L / 2 ^ k = M := ⟨_, rfl⟩
    rw [hM] at hle hds hhf ⊢
    have HD : Hid (digs L (k + 1) = digs L k ++ [M % 2]) := hds
    have HH : Hid (M / 2 = L / 2 ^ (k + 1)) := hhf
    clear hM hds hhf
    by_cases hlt : k < n
    · go_wp2_with (at_builtin; refine wp_pushI w _ w.heap.size w.heap.size rfl (.tmp 12) (.tmp 15) rfl _ k (digs L k) rfl wr.heap.size (M % 2) _ rfl (hown.alloc _) (cell_new1 _ _ _) (by omega) (size_new1 hnx.size _) (by omega) (hnx.alloc hnx.size _) (Nat.le_refl _) ?_; intro v' w1 hown' hnx')
      go_roundw
      case rel =>
        go_light
        exact ⟨k + 1, by omega, by go_num, by rw [← HH.out]; go_num, by rw [HD.out]; exact hown', hnx'⟩
      case measure => simp [intOf]; omega
    · obtain rfl : k = n := by omega
      go_wp2
      go_ret
      exact ⟨_, rfl, hown, hnx⟩

set_option maxHeartbeats 1000000 in
theorem letter_at (ao : Option Addr) (len cap : Nat) (ds : List Nat) (w : World) (h : Rd w ao len cap ds) (hl : len ≤ 62) (hb : ∀ d ∈ ds, d ≤ 1) :
    Calls Try.prog 52 #[.slice ao len cap] w fun e w' => e = .returned (.int .i64 (num ds : Nat)) ∧ w = w' := by
  have hcap := h.lecap
  have hmax := h.lemax
  have hlen := h.eqlen
  have HL : Hid (ds.length = len) := hlen
  clear hlen
  go_enter Try.func52, Try.ntmps52
  go_wp2
  go_loop [3, 4] (fun n i => ∃ m : Nat, m ≤ len ∧ i = .int .i64 ((m : Int) - 1) ∧ n = .int .i64 ((num (ds.drop m) : Nat) : Int)) (fun _ i => (intOf i + 1).toNat)
  case atStart => exact ⟨len, Nat.le_refl _, by go_num, by rw [List.drop_of_length_le (by rw [HL.out]; exact Nat.le_refl _)]; rfl⟩
  case round =>
    obtain ⟨m, hm, rfl, rfl⟩ := hrel
    rcases m with _ | j
    · go_wp2
      go_ret
      exact ⟨by simp, rfl⟩
    · rw [show ((j + 1 : Nat) : Int) - 1 = (j : Int) from by omega]
      obtain ⟨b, off, rfl, hc⟩ := h.cell j (by omega)
      have hnd := num_drop ds j (by rw [HL.out]; omega)
      have HN : Hid (num (ds.drop j) = ds.getD j 0 + 2 * num (ds.drop (j + 1))) := hnd
      have hd1 : ds.getD j 0 ≤ 1 := hb _ (by rw [List.getD_eq_getElem?_getD, List.getElem?_eq_getElem (by rw [HL.out]; omega)]; simp)
      have hbd := num_lt (ds.drop (j + 1)) (fun d hd => hb d (List.mem_of_mem_drop hd))
      have hp : 2 ^ (ds.drop (j + 1)).length ≤ 2 ^ 61 := Nat.pow_le_pow_right (by omega) (by rw [List.length_drop, HL.out]; omega)
      have hbd2 : num (ds.drop (j + 1)) < 2305843009213693952 := Nat.lt_of_lt_of_le hbd hp
      clear hnd hbd hp
      obtain ⟨x, hx⟩ : ∃ x, ds.getD j 0 = x := ⟨_, rfl⟩
      obtain ⟨y, hy⟩ : ∃ y, num (ds.drop (j + 1)) = y := ⟨_, rfl⟩
      rw [hx] at hc hd1 HN
      rw [hy] at hbd2 HN ⊢
      clear hx hy
      go_wp2
      go_round
      case rel => exact ⟨j, by omega, rfl, congrArg (Value.int .i64) (by have := HN.out; omega)⟩
      case measure => simp [intOf]
end Go.Proofs.Ytholafecbmhhhaa.Dg
