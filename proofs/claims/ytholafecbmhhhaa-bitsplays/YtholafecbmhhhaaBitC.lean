/- The program's set in memory: New, Size, refuse, refuseOther, bitOf. -/
import Derived.Test.YtholafecbmhhhaaBitB
import Derived.Test.YtholafecbmhhhaaSetD
namespace Go.Proofs.Ytholafecbmhhhaa.Dg
open Go.RowKit
set_option linter.unusedVariables false

theorem Try.infoU : (Try.prog.info? 77).map (fun i => (i.zero, i.size, i.bytes)) = some (some (.int .u64 0), 1, 8) := by kernel_rfl
abbrev cellsU (C : List Nat) : List Value := C.map (fun d : Nat => Value.int .u64 (d : Int))
/-- number i is in the cells -/
def bitAt (C : List Nat) (i : Nat) : Bool := (C.getD (i / 64) 0).testBit (i % 64)

/-- the set that lies at block p, its cells in block g -/
structure Bs (w : World) (p g n m : Nat) (C : List Nat) : Prop where
  sz : w.cell? ⟨p, 0, none⟩ = some (.int .i64 (n : Int))
  at_c : w.cell? ⟨p, 1, none⟩ = some (.slice (some ⟨g, 0, none⟩) m m)
  row : w.ownsRow 0 77 1 (.slice (some ⟨g, 0, none⟩) m m) m (cellsU C)
  small : n ≤ 4096
  len : m = (n + 63) / 64
  lt : ∀ x ∈ C, x < 18446744073709551616
  hi : ∀ i, n ≤ i → bitAt C i = false
  ne : p ≠ g
theorem owns_frame {w w' : World} {base : Nat} {e : TypeId} {size : Nat} {v : Value} {n : Nat} {xs : List Value} (h : w.ownsRow base e size v n xs) (hb : ∀ g, v.ownBlock = some g → w'.heap[g]? = w.heap[g]?) : w'.ownsRow base e size v n xs := by
  obtain ⟨h1, h2⟩ := h
  refine ⟨h1, ?_⟩
  rcases h2 with h2 | ⟨g, cap, cur, hv, hg, hh, r⟩
  · exact Or.inl h2
  · exact Or.inr ⟨g, cap, cur, hv, hg, (hb g (by rw [hv]; rfl)).trans hh, r⟩
theorem Bs.frame {w w' : World} {p g n m : Nat} {C : List Nat} (h : Bs w p g n m C) (hp : w'.heap[p]? = w.heap[p]?) (hg : w'.heap[g]? = w.heap[g]?) : Bs w' p g n m C :=
  ⟨(World.cell?_of_block (a := ⟨p, 0, none⟩) hp).trans h.sz, (World.cell?_of_block (a := ⟨p, 1, none⟩) hp).trans h.at_c, owns_frame h.row (fun k e => by cases e; exact hg), h.small, h.len, h.lt, h.hi, h.ne⟩
theorem owns_mono {w : World} {base : Nat} {e : TypeId} {size : Nat} {v : Value} {n : Nat} {xs : List Value} (h : w.ownsRow base e size v n xs) : w.ownsRow 0 e size v n xs := by
  obtain ⟨h1, h2⟩ := h
  refine ⟨h1, ?_⟩
  rcases h2 with h2 | ⟨g, cap, cur, hv, hg, r⟩
  · exact Or.inl h2
  · exact Or.inr ⟨g, cap, cur, hv, Nat.zero_le _, r⟩
theorem Bs.plt {w : World} {p g n m : Nat} {C : List Nat} (h : Bs w p g n m C) : p < w.heap.size := World.block_lt_of_cell? _ _ h.sz
theorem Bs.glt {w : World} {p g n m : Nat} {C : List Nat} (h : Bs w p g n m C) : g < w.heap.size := (h.row.lt g rfl).2
theorem Bs.below {w w' : World} {p g n m : Nat} {C : List Nat} (h : Bs w p g n m C) {B : Nat} (hB : w.heap.size ≤ B) (hb : Below B w w') : Bs w' p g n m C :=
  h.frame (hb.block p (Nat.lt_of_lt_of_le h.plt hB)) (hb.block g (Nat.lt_of_lt_of_le h.glt hB))
theorem Bs.clen {w : World} {p g n m : Nat} {C : List Nat} (h : Bs w p g n m C) : C.length = m := by
  have := h.row.1
  simpa using this
theorem Bs.cell {w : World} {p g n m : Nat} {C : List Nat} (h : Bs w p g n m C) (q : Nat) (hq : q < m) : w.cell? ⟨g, q, none⟩ = some (.int .u64 ((C.getD q 0 : Nat) : Int)) := by
  have hl := h.clen
  rw [h.row.cellAt q (by omega), List.getElem?_map, List.getElem?_eq_getElem (by omega)]
  simp [List.getD_eq_getElem?_getD, List.getElem?_eq_getElem (show q < C.length by omega)]
theorem Bs.clt {w : World} {p g n m : Nat} {C : List Nat} (h : Bs w p g n m C) (q : Nat) : C.getD q 0 < 18446744073709551616 := by
  by_cases hq : q < C.length
  · rw [List.getD_eq_getElem?_getD, List.getElem?_eq_getElem hq, Option.getD_some]
    exact h.lt _ (List.getElem_mem hq)
  · rw [List.getD_eq_getElem?_getD, List.getElem?_eq_none (by omega), Option.getD_none]
    omega
abbrev at_p (p : Nat) : Value := .pointer (some ⟨p, 0, none⟩)

theorem refuse_at (p g n m : Nat) (C : List Nat) (x : Int) (w : World) (h : Bs w p g n m C) :
    Calls Try.prog 43 #[at_p p, .int .i64 x] w fun e w' => e = .returned (.int .i64 (if 0 ≤ x ∧ x < n then 0 else 2)) ∧ w = w' := by
  have hs := h.sz
  have hn := h.small
  by_cases h0 : 0 ≤ x
  · by_cases h1 : x < n
    · rw [if_pos ⟨h0, h1⟩]
      go_enter Try.func43, Try.ntmps43
      go_wp2
      go_ret
      exact ⟨rfl, rfl⟩
    · rw [if_neg (fun h => h1 h.2)]
      go_enter Try.func43, Try.ntmps43
      go_wp2
      go_ret
      exact ⟨rfl, rfl⟩
  · rw [if_neg (fun h => h0 h.1)]
    go_enter Try.func43, Try.ntmps43
    go_wp2
    go_ret
    exact ⟨rfl, rfl⟩
theorem refuse_nil (x : Int) (w : World) :
    Calls Try.prog 43 #[.pointer none, .int .i64 x] w fun e w' => e = .returned (.int .i64 1) ∧ w = w' := by
  go_enter Try.func43, Try.ntmps43
  go_wp2
  go_ret
  exact ⟨rfl, rfl⟩
theorem size_at (p g n m : Nat) (C : List Nat) (w : World) (h : Bs w p g n m C) :
    Calls Try.prog 47 #[at_p p] w fun e w' => e = .returned (.int .i64 n) ∧ w = w' := by
  have hs := h.sz
  go_enter Try.func47, Try.ntmps47
  go_wp2
  go_ret
  exact ⟨rfl, rfl⟩
theorem size_nil (w : World) :
    Calls Try.prog 47 #[.pointer none] w fun e w' => e = .returned (.int .i64 0) ∧ w = w' := by
  go_enter Try.func47, Try.ntmps47
  go_wp2
  go_ret
  exact ⟨rfl, rfl⟩
theorem other_at (p g n m p' g' n' m' : Nat) (C C' : List Nat) (r : Int) (w : World) (h : Bs w p g n m C) (k : Bs w p' g' n' m' C') (hr : r = if n = n' then 0 else 3) :
    Calls Try.prog 45 #[at_p p, at_p p'] w fun e w' => e = .returned (.int .i64 r) ∧ w.drewN 1 = w' := by
  have hs := h.sz
  have ht := k.sz
  have hn := h.small
  have hn' := k.small
  by_cases hnn : n = n'
  · subst hnn
    rw [if_pos rfl] at hr
    subst hr
    go_enter Try.func45, Try.ntmps45
    go_wp2
    go_region
    go_wp2
    go_ret
    exact ⟨rfl, rfl⟩
  · rw [if_neg hnn] at hr
    subst hr
    have hne : ¬ (n : Int) = (n' : Int) := by omega
    go_enter Try.func45, Try.ntmps45
    go_wp2
    go_region
    go_wp2
    go_ret
    exact ⟨rfl, rfl⟩
theorem other_nil1 (v : Value) (hv : v = .pointer none ∨ ∃ a, v = .pointer (some a)) (w : World) :
    Calls Try.prog 45 #[.pointer none, v] w fun e w' => e = .returned (.int .i64 1) ∧ w = w' := by
  rcases hv with rfl | ⟨a, rfl⟩
  · go_enter Try.func45, Try.ntmps45
    go_wp2
    go_ret
    exact ⟨rfl, rfl⟩
  · go_enter Try.func45, Try.ntmps45
    go_wp2
    go_ret
    exact ⟨rfl, rfl⟩
theorem other_nil2 (p : Nat) (w : World) :
    Calls Try.prog 45 #[at_p p, .pointer none] w fun e w' => e = .returned (.int .i64 1) ∧ w = w' := by
  go_enter Try.func45, Try.ntmps45
  go_wp2
  go_ret
  exact ⟨rfl, rfl⟩
theorem retU {a c : Int} (h : a = c) : Ending.returned (.int .u64 a) = .returned (.int .u64 c) := by rw [h]
theorem bitOf_at (i : Nat) (w : World) (hi : i ≤ 1000000) :
    Calls Try.prog 44 #[.int .i64 i] w fun e w' => e = .returned (.int .u64 ((2 ^ (i % 64) : Nat) : Int)) ∧ w = w' := by
  have hp : 2 ^ (i % 64) < 2 ^ 64 := Nat.pow_lt_pow_right (by omega) (by omega)
  have HF : Hid (IntKind.u64.wrap (2 ^ (i % 64)) = ((2 ^ (i % 64) : Nat) : Int)) := by
    show _ = _
    rw [show ((2 : Int) ^ (i % 64)) = ((2 ^ (i % 64) : Nat) : Int) from by simp]
    exact wrapN _ hp
  clear hp
  go_enter Try.func44, Try.ntmps44
  go_wp2
  go_ret
  exact ⟨retU HF.out, rfl⟩
theorem made_zerosU (n : Nat) : (madeCells (Value.int .u64 0).cells (n * 1)).toList = cellsU (List.replicate n 0) := by
  show (madeCells #[Value.int .u64 0] (n * 1)).toList = _
  rw [toList_madeCells_one]; simp [cellsU]
theorem bitAt_zero (m i : Nat) : bitAt (List.replicate m 0) i = false := by
  unfold bitAt
  rw [List.getD_eq_getElem?_getD, List.getElem?_replicate]
  split <;> simp
set_option maxHeartbeats 1000000 in
theorem bnew_in (n : Nat) (w : World) (hn : n ≤ 4096) :
    Calls Try.prog 10 #[.int .i64 n] w fun e w' => ∃ p g, e = .returned (.tuple #[at_p p, .int .i64 0]) ∧ Bs w' p g n ((n + 63) / 64) (List.replicate ((n + 63) / 64) 0) ∧ w.heap.size ≤ p ∧ w.heap.size ≤ g ∧ Below w.heap.size w w' := by
  obtain ⟨ib, hb, hb0, hb1, hb2⟩ := info_parts Try.infoU
  obtain ⟨m, hm⟩ : ∃ m, (n + 63) / 64 = m := ⟨_, rfl⟩
  rw [hm]
  have hq : ((n : Int) + 64 - 1) / 64 = (m : Int) := by omega
  have hm64 : m ≤ 64 := by omega
  have HM : Hid (m = (n + 63) / 64) := hm.symm
  clear hm
  go_enter Try.func10, Try.ntmps10
  go_wp2_with (at_make; refine wpList_make_full _ rfl _ _ 74 rfl w.heap.size 77 ib (.int .u64 0) 1 Try.underlying74 hb hb0 hb1 _ _ _ _ m rfl rfl hq hq (by rw [hb2]; omega) (by unfold maxLen; omega) (by simp) ?_; intro w2 hown2 hg2)
  go_ret2
  rw [made_zerosU] at hown2
  have hgl := (hown2.lt w.heap.size rfl).2
  have hB : Below w.heap.size w w2 := (Below.refl _ _).grown hg2 (Nat.le_refl _) (fun k e => by cases e)
  refine ⟨w2.heap.size, w.heap.size, rfl, ⟨by simp, by simp, (owns_mono hown2).alloc _, hn, HM.out, ?_, fun i _ => bitAt_zero m i, by omega⟩, hB.size, Nat.le_refl _, hB.alloc hB.size _⟩
  intro x hx
  rw [(List.mem_replicate.1 hx).2]
  omega
theorem bnew_out (x : Int) (w : World) (hx : ¬ (0 ≤ x ∧ x ≤ 4096)) :
    Calls Try.prog 10 #[.int .i64 x] w fun e w' => e = .returned (.tuple #[.pointer none, .int .i64 2]) ∧ w = w' := by
  by_cases h0 : x < 0
  · clear hx
    go_enter Try.func10, Try.ntmps10
    go_wp2
    go_ret2
    exact ⟨rfl, rfl⟩
  · have h1 : 4096 < x := by omega
    clear hx
    go_enter Try.func10, Try.ntmps10
    go_wp2
    go_ret2
    exact ⟨rfl, rfl⟩
end Go.Proofs.Ytholafecbmhhhaa.Dg
