/- The document's meter. -/
import Derived.Test.YtncgmnijgdfenaaDoorTrD
namespace Go.Proofs.YtncgmnijgdfenaaDoor.Gl
open Go.RowKit
set_option linter.unusedVariables false

/-- the block b holds the meter s -/
def MtIs (w : World) (b : Nat) (s : St) : Prop := ∃ fr : Nat × Nat, w.heap[b]? = some (.cells #[.int .i64 s.n, .int .i64 s.d, .int .i64 s.e] 47 (0, 0))
/-- all but block b is kept -/
structure But (b : Nat) (w w' : World) : Prop where
  os : w'.os = w.os
  tape : w'.tape = w.tape
  output : w'.output = w.output
  size : w.heap.size ≤ w'.heap.size
  block : ∀ k, k < w.heap.size → k ≠ b → w'.heap[k]? = w.heap[k]?
theorem But.refl (b : Nat) (w : World) : But b w w := ⟨rfl, rfl, rfl, Nat.le_refl _, fun _ _ _ => rfl⟩
theorem But.trans {b : Nat} {w w1 w2 : World} (h : But b w w1) (k : But b w1 w2) : But b w w2 :=
  ⟨k.os.trans h.os, k.tape.trans h.tape, k.output.trans h.output, Nat.le_trans h.size k.size, fun i hi hn => (k.block i (Nat.lt_of_lt_of_le hi h.size) hn).trans (h.block i hi hn)⟩
theorem But.of {b : Nat} {w w' : World} (h : Below w.heap.size w w') : But b w w' := ⟨h.os, h.tape, h.output, h.size, fun i hi _ => h.block i hi⟩
theorem But.below {b B : Nat} {w w' : World} (h : But b w w') (hb : B ≤ b) (hs : B ≤ w.heap.size) : Below B w w' :=
  ⟨h.os, h.tape, h.output, h.size, fun i hi => h.block i (by omega) (by omega)⟩
theorem But.set {b : Nat} {w w' : World} (h : But b w w') (o : Nat) (v : Value) : But b w (w'.setCell ⟨b, o, none⟩ v) :=
  h.trans ⟨rfl, rfl, rfl, by simp [World.setCell], fun k hk hn => Below.heap_setCell _ _ _ _ hn⟩
theorem mt_cells {w : World} {b : Nat} {s : St} (h : MtIs w b s) : w.cell? ⟨b, 0, none⟩ = some (.int .i64 s.n) ∧ w.cell? ⟨b, 1, none⟩ = some (.int .i64 s.d) ∧ w.cell? ⟨b, 2, none⟩ = some (.int .i64 s.e) ∧ w.frozen? ⟨b, 0, none⟩ = false ∧ w.frozen? ⟨b, 1, none⟩ = false ∧ w.frozen? ⟨b, 2, none⟩ = false := by
  obtain ⟨_, h⟩ := h
  simp [World.cell?, World.frozen?, h]
theorem mt3 {w : World} {b : Nat} {s s' : St} {x y z : Int} (h : MtIs w b s) (h0 : x = (s'.n : Int)) (h1 : y = (s'.d : Int)) (h2 : z = (s'.e : Int)) : MtIs (((w.setCell ⟨b, 0, none⟩ (.int .i64 x)).setCell ⟨b, 1, none⟩ (.int .i64 y)).setCell ⟨b, 2, none⟩ (.int .i64 z)) b s' := by
  obtain ⟨fr, h⟩ := h
  subst h0; subst h1; subst h2
  refine ⟨fr, ?_⟩
  simp [World.setCell, Array.getElem?_modify, h]
theorem mt2 {w : World} {b : Nat} {s s' : St} {x y : Int} (h : MtIs w b s) (h0 : x = (s'.n : Int)) (h1 : y = (s'.d : Int)) (h2 : s.e = s'.e) : MtIs ((w.setCell ⟨b, 0, none⟩ (.int .i64 x)).setCell ⟨b, 1, none⟩ (.int .i64 y)) b s' := by
  obtain ⟨fr, h⟩ := h
  subst h0; subst h1
  refine ⟨fr, ?_⟩
  simp [World.setCell, Array.getElem?_modify, h, h2]
theorem But.s3 (b : Nat) (w : World) (x y z : Value) : But b w (((w.setCell ⟨b, 0, none⟩ x).setCell ⟨b, 1, none⟩ y).setCell ⟨b, 2, none⟩ z) := (((But.refl b w).set 0 x).set 1 y).set 2 z
theorem But.s2 (b : Nat) (w : World) (x y : Value) : But b w ((w.setCell ⟨b, 0, none⟩ x).setCell ⟨b, 1, none⟩ y) := ((But.refl b w).set 0 x).set 1 y
set_option maxHeartbeats 1000000 in
theorem rnode_at (b dp : Nat) (good : Bool) (s : St) (w : World) (hM : MtIs w b s) (hn : s.n ≤ 1000) (hd : s.d ≤ 1000) (hdp : dp ≤ 1000) :
    Calls Tryd.prog 33 #[.pointer (some ⟨b, 0, none⟩), .int .i64 dp, .bool good] w fun e w' => e = .returned (.tuple #[]) ∧ MtIs w' b (s.node dp good) ∧ But b w w' := by
  obtain ⟨c0, c1, c2, f0, f1, f2⟩ := mt_cells hM
  by_cases h1 : 500 < s.n + 1
  · have k1 : (500 : Int) < (s.n : Int) + 1 := by omega
    have HE : Hid ((s.node dp good).e = 73) := by show _ = _; unfold St.node; dsimp only; rw [if_pos h1]
    go_enter Tryd.func33, Tryd.ntmps33
    go_wp2
    all_goals
      go_end0
      refine ⟨rfl, mt3 hM ?_ ?_ ?_, But.s3 _ _ _ _ _⟩
      · show _ = ((s.n + 1 : Nat) : Int); omega
      · show _ = ((max s.d dp : Nat) : Int); omega
      · rw [HE.out]; rfl
  · have k1 : decide ((500 : Int) < (s.n : Int) + 1) = false := decide_eq_false (by omega)
    by_cases h2 : 40 < dp
    · have k2 : (40 : Int) < (dp : Int) := by omega
      have HE : Hid ((s.node dp good).e = 72) := by show _ = _; unfold St.node; dsimp only; rw [if_neg h1, if_pos h2]
      go_enter Tryd.func33, Tryd.ntmps33
      go_wp2
      all_goals
        go_end0
        refine ⟨rfl, mt3 hM ?_ ?_ ?_, But.s3 _ _ _ _ _⟩
        · show _ = ((s.n + 1 : Nat) : Int); omega
        · show _ = ((max s.d dp : Nat) : Int); omega
        · rw [HE.out]; rfl
    · have k2 : decide ((40 : Int) < (dp : Int)) = false := decide_eq_false (by omega)
      cases good with
      | true =>
        have HE : Hid (s.e = (s.node dp true).e) := by show _ = _; unfold St.node; dsimp only; rw [if_neg h1, if_neg h2, if_pos rfl]
        go_enter Tryd.func33, Tryd.ntmps33
        go_wp2
        all_goals
          go_end0
          refine ⟨rfl, mt2 hM ?_ ?_ HE.out, But.s2 _ _ _ _⟩
          · show _ = ((s.n + 1 : Nat) : Int); omega
          · show _ = ((max s.d dp : Nat) : Int); omega
      | false =>
        have HE : Hid ((s.node dp false).e = 3) := by show _ = _; unfold St.node; dsimp only; rw [if_neg h1, if_neg h2, if_neg (by decide)]
        go_enter Tryd.func33, Tryd.ntmps33
        go_wp2
        all_goals
          go_end0
          refine ⟨rfl, mt3 hM ?_ ?_ ?_, But.s3 _ _ _ _ _⟩
          · show _ = ((s.n + 1 : Nat) : Int); omega
          · show _ = ((max s.d dp : Nat) : Int); omega
          · rw [HE.out]; rfl
end Go.Proofs.YtncgmnijgdfenaaDoor.Gl
