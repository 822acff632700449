/- The document's Good, Name. -/
import Derived.Test.YthimmohbedaimaaDoorGlD
namespace Go.Proofs.YthimmohbedaimaaDoor.Gl
open Go.RowKit
set_option linter.unusedVariables false

/-- characters 0 .. k - 1 are characters -/
def Oks (s : ByteArray) (k : Nat) : Prop := ∀ j, j < k → pos s j < s.size ∧ (rdS s (pos s j)).2.2 = true
theorem Oks.lt {s : ByteArray} {k : Nat} (h : Oks s k) : ∀ j, j < k → pos s j < s.size := fun j hj => (h j hj).1
/-- the first wrong byte, or the end -/
def IsGood (s : ByteArray) (g : Nat) : Prop := ∃ k, pos s k = g ∧ Oks s k ∧ (g = s.size ∨ (g < s.size ∧ (rdS s g).2.2 = false))
theorem good_one {s : ByteArray} {g h : Nat} (a : IsGood s g) (b : IsGood s h) : g = h := by
  obtain ⟨k, rfl, ok, e⟩ := a
  obtain ⟨m, rfl, om, f⟩ := b
  rcases Nat.lt_trichotomy k m with hlt | rfl | hlt
  · have := om k hlt
    rcases e with e | ⟨_, e⟩
    · omega
    · rw [e] at this; cases this.2
  · rfl
  · have := ok m hlt
    rcases f with f | ⟨_, f⟩
    · omega
    · rw [f] at this; cases this.2
/-- characters 0 .. k - 1 may stand in a name, the first one at its beginning -/
def Nms (s : ByteArray) (k : Nat) : Prop := ∀ j, j < k → pos s j < s.size ∧ (rdS s (pos s j)).2.2 = true ∧ reB ((rdS s (pos s j)).1 : Nat) = true ∧ (j = 0 → stB ((rdS s (pos s j)).1 : Nat) = true)
theorem Nms.lt {s : ByteArray} {k : Nat} (h : Nms s k) : ∀ j, j < k → pos s j < s.size := fun j hj => (h j hj).1
def IsName (s : ByteArray) : Prop := (∃ n, IsCnt s n ∧ 1 ≤ n ∧ n ≤ 16 ∧ Nms s n) ∧ rsB s = false
theorem name_no {s : ByteArray} {k : Nat} (hk : pos s k < s.size) (hall : ∀ j, j < k → pos s j < s.size) (h : ¬ ((rdS s (pos s k)).2.2 = true ∧ reB ((rdS s (pos s k)).1 : Nat) = true ∧ (k = 0 → stB ((rdS s (pos s k)).1 : Nat) = true))) : ¬ IsName s := by
  rintro ⟨⟨n, hn, _, _, hm⟩, _⟩
  have hkn : k + 1 ≤ n := cnt_lt hn (fun j hj => by
    rcases Nat.lt_succ_iff_lt_or_eq.1 hj with hj | rfl
    · exact hall j hj
    · exact hk)
  have := hm k (by omega)
  exact h this.2
theorem reB_of {r : Int} (h : stB r = true) : reB r = true := by unfold reB; rw [h]; rfl
end Go.Proofs.YthimmohbedaimaaDoor.Gl
