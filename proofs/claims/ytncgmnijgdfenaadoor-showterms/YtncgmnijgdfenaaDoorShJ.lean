/- The writer's part and combined. -/
import Derived.Test.YtncgmnijgdfenaaDoorShI
namespace Go.Proofs.YtncgmnijgdfenaaDoor.Gl
open Go Go.RowKit
set_option linter.unusedVariables false
set_option linter.unusedSimpArgs false

/-- a call that writes these bytes -/
abbrev WrA (b : Nat) (l bs : List UInt8) (w : World) (e : Ending) (w' : World) : Prop := e = .returned (.tuple #[]) ∧ Bw w' b (l ++ bs) ∧ Kw b w w'
abbrev TC (W : World) (b : Nat) (bs : List UInt8) (c0 c1 c2 c3 : Value) : Prop :=
  ∀ w l, Below W.heap.size W w → Bw w b l → l.length + bs.length ≤ 140737488355328 → Calls Tryd.prog 19 #[.pointer (some ⟨b, 0, none⟩), .agg #[c0, c1, c2, c3]] w (WrA b l bs w)
theorem Kw.low {B b : Nat} {w w' : World} (h : Kw b w w') (hB : B ≤ b) : Below B w w' := h.1.mono hB
theorem Kw.size {b : Nat} {w w' : World} (h : Kw b w w') : w.heap.size ≤ w'.heap.size := h.1.size
theorem bel_alloc {B : Nat} {W w : World} (h : Below B W w) (hB : B ≤ w.heap.size) (o : Obj) : Below B W (w.alloc o) := h.alloc hB o
theorem Bw.below {w w' : World} {b : Nat} {l : List UInt8} (h : Bw w b l) (hb : Below w.heap.size w w') : Bw w' b l := by
  have key : ∀ p, Lib.BuilderAtF WT U8 b b p (Lib.byteCells l) w → Lib.BuilderAtF WT U8 b b p (Lib.byteCells l) w' := by
    rintro p ⟨h1, v, h2, ⟨h3, h4⟩, h5⟩
    refine ⟨h1, v, (hb.block b (Array.getElem?_eq_some_iff.1 h2).1).trans h2, ⟨h3, ?_⟩, h5⟩
    rcases h4 with h4 | ⟨g, cap, cur, fz, hv, hbg, hg, r⟩
    · exact .inl h4
    · exact .inr ⟨g, cap, cur, fz, hv, hbg, (hb.block g (Array.getElem?_eq_some_iff.1 hg).1).trans hg, r⟩
  rcases h with h | h
  · exact .inl (key _ h)
  · exact .inr (key _ h)
theorem Kw.of {b : Nat} {w w' : World} (h : Below w.heap.size w w') (hb : b ≤ w.heap.size) : Kw b w w' :=
  ⟨h.mono hb, fun k o hk _ _ => (h.block k (Array.getElem?_eq_some_iff.1 hk).1).trans hk⟩
/-- the box of a parameter, behind a write -/
theorem wbox_keep {b : Nat} {w w' : World} {vs : Array Value} {t : TypeId} (hbw : b < w.heap.size) (h : Kw b (w.alloc (.cells vs t)) w') (ht : t ≠ U8) : ∀ o, w'.cell? ⟨w.heap.size, o, none⟩ = vs[o]? := fun o => by
  rw [Lib.cell_of_heap (h.blk (heap_alloc_new w _) (by omega) ht)]
theorem wbox_keep2 {b : Nat} {w w' : World} {k : Nat} {vs : Array Value} {t : TypeId} (hk : w.heap[k]? = some (.cells vs t)) (hb : k ≠ b) (h : Kw b w w') (ht : t ≠ U8) : w'.heap[k]? = some (.cells vs t) := h.blk hk hb ht
set_option maxHeartbeats 1000000 in
theorem part_at {W : World} {b : Nat} (hb : W.heap.size ≤ b) (o : Int) (c1 c2 c3 : Value) (bs : List UInt8) (HT : TC W b bs (.int .i64 o) c1 c2 c3) (s : Nat) (w : World) (l : List UInt8) (hW : Below W.heap.size W w) (h : Bw w b l) (hlen : l.length + (if s ≤ strT o then bs else 91 :: (bs ++ [93])).length ≤ 140737488355328) :
    Calls Tryd.prog 31 #[.pointer (some ⟨b, 0, none⟩), .agg #[.int .i64 o, c1, c2, c3], .int .i64 (s : Nat)] w (WrA b l (if s ≤ strT o then bs else 91 :: (bs ++ [93])) w) := by
  have hbw := h.lt
  have ST := mkHid (strength_at o)
  generalize hk : strT o = k at *
  have hB1 := mkHid (h.alloc (.cells #[.int .i64 o, c1, c2, c3] 36))
  have hW1 := mkHid (bel_alloc hW (by omega) (.cells #[.int .i64 o, c1, c2, c3] 36))
  have hK1 := mkHid ((Kw.refl b w).alloc (by omega) (.cells #[.int .i64 o, c1, c2, c3] 36))
  have HTT := mkHid HT
  clear HT hk h hW
  by_cases hs : s ≤ k
  · rw [if_pos hs] at hlen ⊢
    have hs' : (s : Int) ≤ (k : Int) := by omega
    go_enter Tryd.func31, Tryd.ntmps31
    go_wp2_with (first
      | (go_at_call 44; refine (ST.out _).mono ?_; rintro e w2 ⟨rfl, rfl⟩; have _t := hs')
      | (go_at_call 19; refine (HTT.out _ _ hW1.out hB1.out (by omega)).mono ?_; rintro e w3 ⟨rfl, hb3, hk3⟩))
    go_end0
    exact ⟨rfl, hb3, hK1.out.trans hk3⟩
  · rw [if_neg hs] at hlen ⊢
    have hlen : l.length + (bs.length + 2) ≤ 140737488355328 := by simpa using hlen
    have hs' : ¬ (s : Int) ≤ (k : Int) := by omega
    have P1 := mkHid (put1 hB1.out kSq (by show l.length + 1 ≤ 140737488355328; omega) (g := w.heap.size + 1) (by simp))
    go_enter Tryd.func31, Tryd.ntmps31
    go_wp2_with (go_at_call 44; refine (ST.out _).mono ?_; rintro e w2 ⟨rfl, rfl⟩)
    refine P1.out.mono ?_
    rintro e w3 ⟨rfl, hb3, hk3⟩
    have hx := wbox_keep hbw hk3 (by decide)
    have x0 := hx 0
    have x1 := hx 1
    have x2 := hx 2
    have x3 := hx 3
    have hW3 := mkHid (hW1.out.trans (hk3.low hb))
    have hk3' := mkHid hk3
    have hb3' := mkHid hb3
    clear hk3 hb3
    go_wp2_with (fail)
    refine (HTT.out w3 _ hW3.out hb3'.out (by rw [List.length_append]; show l.length + 1 + _ ≤ 140737488355328; omega)).mono ?_
    rintro e w4 ⟨rfl, hb4, hk4⟩
    have P2 := mkHid (put1 hb4 kQs (by rw [List.length_append, List.length_append]; show l.length + 1 + _ + 1 ≤ 140737488355328; omega) rfl)
    have hk4' := mkHid hk4
    clear hk4 hb4
    go_wp2_with (fail)
    refine P2.out.mono ?_
    rintro e w5 ⟨rfl, hb5, hk5⟩
    have hbz := mkHid hb5
    have hkz := mkHid (((hK1.out.trans hk3'.out).trans hk4'.out).trans hk5)
    clear hb5 hk5
    go_wp2
    go_end0
    refine ⟨rfl, ?_, hkz.out⟩
    have := hbz.out
    rw [List.append_assoc, List.append_assoc] at this
    exact this
end Go.Proofs.YtncgmnijgdfenaaDoor.Gl
