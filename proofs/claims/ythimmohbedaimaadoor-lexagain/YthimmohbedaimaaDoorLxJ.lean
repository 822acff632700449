/- Bounds on words written down: plain mathematics. -/
import Derived.Test.YthimmohbedaimaaDoorLxI
namespace Go.Proofs.YthimmohbedaimaaDoor.Gl
open Go.RowKit
set_option linter.unusedVariables false

theorem Lx.code {s : ByteArray} {p : Nat} {ws : List Wd} {f : Option (Nat × Nat)} (h : Lx s p ws f) : ∀ c e, f = some (c, e) → c ≠ 0 := by
  induction h with
  | done => intro c e he; cases he
  | blank _ _ _ ih => exact ih
  | word _ _ _ ih => exact ih
  | @bad p e a b =>
    intro c e' he
    cases he
    rintro rfl
    rcases tok_cases s p with ⟨_, k⟩ | ⟨_, ⟨_, k⟩ | ⟨_, ⟨_, ⟨_, k⟩ | ⟨_, _, k⟩ | ⟨_, _, k⟩⟩ | ⟨_, _, ⟨_, k⟩ | ⟨_, k⟩⟩ | ⟨_, _, _, k⟩ | ⟨_, _, _, ⟨_, k⟩ | ⟨_, k⟩⟩⟩⟩
    all_goals rw [b] at k
    all_goals cases k
theorem dec_pow (n : Nat) : 10 ^ ((decL n).length - 1) ≤ n ∨ n = 0 := by
  induction n using Nat.strongRecOn with
  | _ n ih =>
    by_cases h : n < 10
    · rw [dec_lt h]
      simp only [List.length_singleton, Nat.sub_self, Nat.pow_zero]
      omega
    · left
      have hl : (decL n).length = (decL (n / 10)).length + 1 := by rw [dec_ge h]; simp
      have h1 := (dec_all (n / 10)).1
      rcases ih (n / 10) (by omega) with h2 | h2
      · rw [hl, show (decL (n / 10)).length + 1 - 1 = (decL (n / 10)).length - 1 + 1 by omega, Nat.pow_succ]
        omega
      · omega
theorem dec_short {n : Nat} (h : n ≤ 9223372036854775807) : (decL n).length ≤ 19 := by
  rcases dec_pow n with h1 | rfl
  · by_cases hc : (decL n).length ≤ 19
    · exact hc
    · have : 10 ^ 19 ≤ 10 ^ ((decL n).length - 1) := Nat.pow_le_pow_right (by omega) (by omega)
      omega
  · rw [dec_lt (by omega)]; simp
theorem plain_small : ∀ r ∈ marks, (plB r).size ≤ 3 := by decide +kernel
theorem sign_small : ∀ x ∈ allSigns, x.size ≤ 3 := by decide +kernel
theorem wr_small {s : ByteArray} {p k v q : Nat} {t : ByteArray} (hs : s.size ≤ 4096) (hp : p < s.size) (h : tok s p = .word k t v q) : (wrt ⟨k, t, v, p⟩).size ≤ 4096 ∧ v ≤ 9223372036854775807 := by
  have hto := tok_to hp h
  rcases tok_cases s p with ⟨_, e⟩ | ⟨_, ⟨_, e⟩ | ⟨_, ⟨_, ⟨_, e⟩ | ⟨_, _, e⟩ | ⟨_, _, e⟩⟩ | ⟨_, _, ⟨_, e⟩ | ⟨hv, e⟩⟩ | ⟨_, _, hpl, e⟩ | ⟨_, _, _, ⟨_, e⟩ | ⟨hne, e⟩⟩⟩⟩
  all_goals rw [h] at e
  all_goals cases e
  · refine ⟨?_, by omega⟩
    show (s.extract p _).size ≤ 4096
    rw [ByteArray.size_extract]; omega
  · refine ⟨?_, by omega⟩
    show (s.extract p _).size ≤ 4096
    rw [ByteArray.size_extract]; omega
  · refine ⟨?_, by omega⟩
    show (dec _).size ≤ 4096
    rw [dec_size]
    exact Nat.le_trans (dec_short (Nat.le_of_not_lt hv)) (by omega)
  · refine ⟨?_, by omega⟩
    show (plB _).size ≤ 4096
    have := plain_small _ (by
      by_cases hm : ((rdS s p).1 : Int) ∈ marks
      · exact hm
      · exact absurd (pl_none _ (fun m h' e => hm (by rw [← e]; exact h'))) hpl)
    omega
  · refine ⟨?_, by omega⟩
    show (sgn s p).size ≤ 4096
    have := sign_small _ (sgn_mem hne).2.1
    omega
theorem Lx.small {s : ByteArray} {p : Nat} {ws : List Wd} {f : Option (Nat × Nat)} (hs : s.size ≤ 4096) (h : Lx s p ws f) : (∀ w ∈ ws, (wrt w).size ≤ 4096 ∧ w.num ≤ 9223372036854775807) ∧ ws.length ≤ s.size - p := by
  induction h with
  | done => exact ⟨fun w hw => (by cases hw), by simp⟩
  | blank a b _ ih => exact ⟨ih.1, by have := ih.2; omega⟩
  | bad => exact ⟨fun w hw => (by cases hw), by simp⟩
  | word a b _ ih =>
    refine ⟨fun w hw => ?_, ?_⟩
    · rcases List.mem_cons.1 hw with rfl | hw
      · exact wr_small hs a b
      · exact ih.1 w hw
    · have := ih.2
      have := tok_to a b
      rw [List.length_cons]
      omega
/-- words written down from the left -/
def tx (l : List Wd) : ByteArray := l.foldl (fun t w => t ++ (wrt w ++ blk)) emp
theorem tx_fold (l : List Wd) (t : ByteArray) : l.foldl (fun t w => t ++ (wrt w ++ blk)) t = t ++ txt l := by
  induction l generalizing t with
  | nil => exact ByteArray.append_empty.symm
  | cons w l ih => rw [List.foldl_cons, ih, txt, ByteArray.append_assoc]
theorem tx_txt (l : List Wd) : tx l = txt l := by
  unfold tx
  rw [tx_fold]
  exact ByteArray.empty_append
theorem tx_take (a : List Wd) (k : Nat) (h : k < a.length) : tx (a.take (k + 1)) = tx (a.take k) ++ (wrt a[k] ++ blk) := by
  unfold tx
  rw [List.take_succ_eq_append_getElem h, List.foldl_append]
  rfl
theorem tx_size (a : List Wd) (h : ∀ w ∈ a, (wrt w).size ≤ 4096) : ∀ k, k ≤ a.length → (tx (a.take k)).size ≤ k * 4097
  | 0, _ => by simp [tx]; decide
  | k + 1, hk => by
    have h1 := tx_size a h k (by omega)
    have h2 := h a[k] (List.getElem_mem _)
    rw [tx_take a k (by omega), ByteArray.size_append, ByteArray.size_append]
    have : blk.size = 1 := rfl
    omega
end Go.Proofs.YthimmohbedaimaaDoor.Gl
