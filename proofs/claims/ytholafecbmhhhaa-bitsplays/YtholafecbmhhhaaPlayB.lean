/- Three sets beside three: the calls of a script that write. -/
import Derived.Test.YtholafecbmhhhaaPlayA
import Derived.Test.YtholafecbmhhhaaLaws
namespace Go.Proofs.Ytholafecbmhhhaa.Dg
open Go.RowKit
set_option linter.unusedVariables false

/-- nothing but the blocks of the sets has turned -/
structure Kept (E : Nat → One) (w w' : World) : Prop where
  os : w'.os = w.os
  tape : w'.tape = w.tape
  output : w'.output = w.output
  size : w.heap.size ≤ w'.heap.size
  block : ∀ b, b < w.heap.size → (∀ j, j < 3 → ¬ (E j).Has b) → w'.heap[b]? = w.heap[b]?
theorem Kept.of_below {E : Nat → One} {w w' : World} (h : Below w.heap.size w w') : Kept E w w' := ⟨h.os, h.tape, h.output, h.size, fun b hb _ => h.block b hb⟩
theorem Kept.of_grown {E : Nat → One} {w w' : World} {r i : Nat} (hi : i < 3) (hr : (E i).Has r) (h : w.grownBy w' (some r)) : Kept E w w' :=
  ⟨h.os, h.tape, h.output, h.size, fun b hb hn => h.block b hb (fun e => hn i hi (by injection e with e; exact e ▸ hr))⟩
theorem Kept.of_row {E : Nat → One} {w w' : World} {i : Nat} (hi : i < 3) (h : w.grownBy w' (E i).row) : Kept E w w' :=
  ⟨h.os, h.tape, h.output, h.size, fun b hb hn => h.block b hb (fun e => hn i hi (.inr (.inr e.symm)))⟩
theorem Kept.trans {E : Nat → One} {a b c : World} (h : Kept E a b) (k : Kept E b c) : Kept E a c :=
  ⟨k.os.trans h.os, k.tape.trans h.tape, k.output.trans h.output, Nat.le_trans h.size k.size, fun i hi hn => (k.block i (Nat.lt_of_lt_of_le hi h.size) hn).trans (h.block i hi hn)⟩
theorem Kept.drew {E : Nat → One} {a b : World} (h : Kept E a b) : Kept E a b.drew := ⟨h.os, h.tape, h.output, h.size, h.block⟩
theorem Kept.cell {E : Nat → One} {w w' : World} (h : Kept E w w') {b o : Nat} {v : Value} (hc : w.cell? ⟨b, o, none⟩ = some v) (hn : ∀ j, j < 3 → ¬ (E j).Has b) : w'.cell? ⟨b, o, none⟩ = some v :=
  (World.cell?_of_block (a := ⟨b, o, none⟩) (h.block b (World.block_lt_of_cell? _ _ hc) hn)).trans hc
theorem Kept.below {B : Nat} {w w' : World} {Sb Wb : Nat} {E : Nat → One} (h : Kept E w w') (hP : Pl B w Sb Wb 3 E) (hB : B ≤ w.heap.size) : Below B w w' :=
  ⟨h.os, h.tape, h.output, h.size, fun b hb => h.block b (Nat.lt_of_lt_of_le hb hB) (fun j hj hh => by have := (hP.own j hj b hh).1; omega)⟩
/-- the two of each number are alike -/
def Ok (E : Nat → One) : Prop := ∀ i, i < 3 → (E i).T = bools (E i).C (E i).n
theorem Ok.upd {E : Nat → One} (h : Ok E) (i : Nat) (e : One) (he : e.T = bools e.C e.n) : Ok (upd E i e) := by
  intro j hj
  by_cases e1 : j = i
  · subst e1; rw [upd_same]; exact he
  · rw [upd_other _ _ _ _ e1]; exact h j hj
theorem upd_upd (E : Nat → One) (i : Nat) (a b : One) : Dg.upd (Dg.upd E i a) i b = Dg.upd E i b := by
  funext j
  by_cases e1 : j = i
  · subst e1; rw [upd_same, upd_same]
  · rw [upd_other _ _ _ _ e1, upd_other _ _ _ _ e1, upd_other _ _ _ _ e1]
theorem bools_ext {T : List Bool} {C : List Nat} {n : Nat} (hl : T.length = n) (h : ∀ j, j < n → T.getD j false = bitAt C j) : T = bools C n :=
  list_eq_of_getD n hl (bools_length C n) (fun j hj => by rw [h j hj, bools_getD C n j hj])

/-- Put and Drop beside Turn -/
theorem turn_both (B Sb Wb i : Nat) (E : Nat → One) (w0 : World) (h0 : Pl B w0 Sb Wb 3 E) (hok : Ok E) (hi : i < 3) (x : Int) (t : Bool) : ∃ (r : Int) (E1 E2 : Nat → One), Ok E2 ∧
    Hid (∀ w, Pl B w Sb Wb 3 E → Calls Try.prog (if t then 13 else 15) #[at_p (E i).p, .int .i64 x] w fun e w' => e = .returned (.int .i64 r) ∧ Pl B w' Sb Wb 3 E1 ∧ Kept E w w') ∧
    Hid (∀ w, Pl B w Sb Wb 3 E1 → Calls Try.prog 14 #[.pointer (some ⟨Wb, i, none⟩), .int .i64 x, .bool t] w fun e w' => e = .returned (.int .i64 r) ∧ Pl B w' Sb Wb 3 E2 ∧ Kept E w w') := by
  by_cases hx : 0 ≤ x ∧ x < (E i).n
  · obtain ⟨j, rfl⟩ : ∃ j : Nat, x = j := ⟨x.toNat, by omega⟩
    have hj : j < (E i).n := by omega
    have hb0 := (h0.pt i hi).bs
    have hm := hb0.len
    have hcl := hb0.clen
    obtain ⟨C', hC', hcall⟩ : ∃ C', (∀ q, bitAt C' q = if j = q then t else bitAt (E i).C q) ∧ ∀ w, Bs w (E i).p (E i).g (E i).n (E i).m (E i).C → Calls Try.prog (if t then 13 else 15) #[at_p (E i).p, .int .i64 j] w fun e w' => e = .returned (.int .i64 0) ∧ Bs w' (E i).p (E i).g (E i).n (E i).m C' ∧ w.grownBy w' (some (E i).g) := by
      cases t with
      | true =>
        refine ⟨putC (E i).C j, fun q => ?_, fun w h => put_in _ _ _ _ j _ w h hj⟩
        rw [bitAt_put _ _ _ (by omega)]
        by_cases e : j = q
        · rw [if_pos e, decide_eq_true e, Bool.or_true]
        · rw [if_neg e, decide_eq_false e, Bool.or_false]
      | false =>
        refine ⟨dropC (E i).C j, fun q => ?_, fun w h => drop_in _ _ _ _ j _ w h hj⟩
        rw [bitAt_drop _ _ _ (by omega) (hb0.clt _)]
        by_cases e : j = q
        · rw [if_pos e, decide_eq_true e, Bool.not_true, Bool.and_false]
        · rw [if_neg e, decide_eq_false e, Bool.not_false, Bool.and_true]
    refine ⟨0, upd E i { E i with C := C' }, upd E i { E i with C := C', T := (E i).T.set j t }, ?_, ?_, ?_⟩
    · refine hok.upd i _ ?_
      have hT := hok i hi
      have hl : (E i).T.length = (E i).n := by rw [hT, bools_length]
      refine bools_ext (by rw [List.length_set]; exact hl) (fun q hq => ?_)
      rw [hC' q]
      by_cases e : j = q
      · subst e; rw [if_pos rfl, getD_set_same _ _ _ _ (by omega)]
      · rw [if_neg e, getD_set_other _ _ _ _ _ e, hT, bools_getD _ _ _ hq]
    · intro w hP
      refine (hcall w (hP.pt i hi).bs).mono ?_
      rintro e w' ⟨rfl, hb, hG⟩
      exact ⟨rfl, hP.real hi hG hb, Kept.of_grown hi (.inr (.inl rfl)) hG⟩
    · intro w hP
      have hr := (hP.pt i hi).rs
      rw [upd_same] at hr
      obtain ⟨g, hg, _⟩ := hr.bit j hj
      have hr2 := hr
      simp only at hr2
      have ha : (E i).a = some ⟨g, 0, none⟩ := hg
      rw [ha] at hr2
      refine (turn_in Wb i g (E i).n (E i).c j (E i).T t w hr2 hj).mono ?_
      rintro e w' ⟨rfl, rfl⟩
      have hG := (hr2.row.stored j (.bool t)).2
      have hrow := (hr2.row.stored j (.bool t)).1
      rw [cells_setB] at hrow
      have hG' : w.grownBy (w.setCell ⟨g, j, none⟩ (.bool t)) (upd E i { E i with C := C' } i).row := by
        rw [upd_same]
        show w.grownBy _ (Value.slice (E i).a (E i).n (E i).c).ownBlock
        rw [ha]; exact hG
      have hP2 := hP.ref (T' := (E i).T.set j t) hi hG' (by rw [upd_same]; show World.ownsRow _ _ _ _ (.slice (E i).a (E i).n (E i).c) _ _; rw [ha]; exact hrow)
      rw [upd_upd, upd_same] at hP2
      refine ⟨rfl, hP2, ?_⟩
      have hG2 : w.grownBy (w.setCell ⟨g, j, none⟩ (.bool t)) (E i).row := by
        show w.grownBy _ (Value.slice (E i).a (E i).n (E i).c).ownBlock
        rw [ha]; exact hG
      exact Kept.of_row hi hG2
  · refine ⟨2, E, E, hok, ?_, ?_⟩
    · intro w hP
      have hc : Calls Try.prog (if t then 13 else 15) #[at_p (E i).p, .int .i64 x] w fun e w' => e = .returned (.int .i64 2) ∧ w = w' := by
        cases t with
        | true => exact put_out _ _ _ _ _ x w (hP.pt i hi).bs hx
        | false => exact drop_out _ _ _ _ _ x w (hP.pt i hi).bs hx
      refine hc.mono ?_
      rintro e w' ⟨rfl, rfl⟩
      exact ⟨rfl, hP, Kept.of_below (Below.refl _ _)⟩
    · intro w hP
      refine (turn_out Wb i _ _ _ x _ t w (hP.pt i hi).rs hx).mono ?_
      rintro e w' ⟨rfl, rfl⟩
      exact ⟨rfl, hP, Kept.of_below (Below.refl _ _)⟩

/-- Join, Meet, Less beside With -/
theorem with_both (B Sb Wb i k fn : Nat) (how : Int) (bf : Bool → Bool → Bool) (E : Nat → One) (w0 : World) (h0 : Pl B w0 Sb Wb 3 E) (hok : Ok E) (hi : i < 3) (hk : k < 3)
    (hmix : ∀ a b, mix how a b = bf a b)
    (hcall : ∀ (p g p' g' n m : Nat) (C D : List Nat) (w : World), Bs w p g n m C → Bs w p' g' n m D → p' ≠ g → Calls Try.prog fn #[at_p p, at_p p'] w fun e w' => ∃ E', e = .returned (.int .i64 0) ∧ Bs w' p g n m E' ∧ Hid (∀ i, bitAt E' i = bf (bitAt C i) (bitAt D i)) ∧ w.grownBy w' (some g))
    (hsh : ∀ (p g p' g' n m n' m' : Nat) (C D : List Nat) (w : World), Bs w p g n m C → Bs w p' g' n' m' D → n ≠ n' → Calls Try.prog fn #[at_p p, at_p p'] w fun e w' => e = .returned (.int .i64 3) ∧ w.drewN 1 = w') :
    ∃ (r : Int), Hid (∀ w, Pl B w Sb Wb 3 E → Calls Try.prog fn #[at_p (E i).p, at_p (E k).p] w fun e w' => ∃ E1, e = .returned (.int .i64 r) ∧ Pl B w' Sb Wb 3 E1 ∧ Kept E w w' ∧
      Hid (∀ w, Pl B w Sb Wb 3 E1 → Calls Try.prog 17 #[.pointer (some ⟨Wb, i, none⟩), .pointer (some ⟨Wb, k, none⟩), .int .i64 how] w fun e w' => ∃ E2, e = .returned (.int .i64 r) ∧ Pl B w' Sb Wb 3 E2 ∧ Ok E2 ∧ Kept E w w')) := by
  by_cases hn : (E i).n = (E k).n
  · refine ⟨0, fun w hP => ?_⟩
    have bi := (hP.pt i hi).bs
    have bk := (hP.pt k hk).bs
    have hm : (E k).m = (E i).m := by rw [bk.len, bi.len, hn]
    rw [← hn, hm] at bk
    have hpg : (E k).p ≠ (E i).g := by
      by_cases e : k = i
      · subst e; exact bi.ne
      · intro e2
        exact hP.dis k i hk hi e _ (.inl rfl) (.inr (.inl e2))
    refine (hcall _ _ _ _ _ _ _ _ w bi bk hpg).mono ?_
    rintro e w' ⟨C', rfl, hb, hbit, hG⟩
    refine ⟨_, rfl, hP.real hi hG hb, Kept.of_grown hi (.inr (.inl rfl)) hG, fun w1 hP1 => ?_⟩
    have ri := (hP1.pt i hi).rs
    have rk := (hP1.pt k hk).rs
    rw [upd_same] at ri
    simp only at ri
    have rk' : Rs w1 ⟨Wb, k, none⟩ (E k).a (E i).n (E k).c (E k).T := by
      by_cases e : k = i
      · subst e; rw [upd_same] at rk; exact rk
      · rw [upd_other _ _ _ _ e, ← hn] at rk; exact rk
    have hne : some Wb ≠ (Value.slice (E i).a (E i).n (E i).c).ownBlock := fun e => (h0.own i hi Wb (.inr (.inr e.symm))).2.2 rfl
    refine (with_at Wb i Wb k (E i).a (E k).a (E i).n (E i).c (E k).c how (E i).T (E k).T w1 ri rk' hne hne).mono ?_
    rintro e w2 ⟨rfl, hrow, hG2⟩
    have hP2 := hP1.ref (T' := mixed how (E i).T (E k).T (E i).n) hi (by rw [upd_same]; exact hG2) (by rw [upd_same]; exact hrow)
    rw [upd_upd, upd_same] at hP2
    refine ⟨_, rfl, hP2, hok.upd i _ ?_, Kept.of_row hi hG2⟩
    have hTi := hok i hi
    have hTk := hok k hk
    have hl : (E i).T.length = (E i).n := by rw [hTi, bools_length]
    refine bools_ext (by rw [mixed_length]; exact hl) (fun q hq => ?_)
    simp only at hq
    rw [mixed_lt how _ _ _ q hq (by omega), hmix, hbit.out, hTi, hTk, bools_getD _ _ _ hq, bools_getD _ _ _ (by omega)]
  · refine ⟨3, fun w hP => ?_⟩
    refine (hsh _ _ _ _ _ _ _ _ _ _ w (hP.pt i hi).bs (hP.pt k hk).bs hn).mono ?_
    rintro e w' ⟨rfl, rfl⟩
    refine ⟨E, rfl, hP.below (Nat.le_refl _) (below_drewN _ _ _), Kept.of_below (below_drewN _ _ _), fun w1 hP1 => ?_⟩
    refine (with_shape Wb i Wb k _ _ _ _ _ _ how _ _ w1 (hP1.pt i hi).rs (hP1.pt k hk).rs hn).mono ?_
    rintro e w2 ⟨rfl, hB⟩
    exact ⟨E, rfl, hP1.below (Nat.le_refl _) hB, hok, Kept.of_below hB⟩
end Go.Proofs.Ytholafecbmhhhaa.Dg
