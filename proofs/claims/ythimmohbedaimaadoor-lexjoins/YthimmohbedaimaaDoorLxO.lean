/- Places in two texts with a blank between: plain mathematics. -/
import Derived.Test.YthimmohbedaimaaDoorLxN
namespace Go.Proofs.YthimmohbedaimaaDoor.Gl
set_option linter.unusedVariables false

theorem join_size (s t : ByteArray) : (s ++ blk ++ t).size = s.size + 1 + t.size := by rw [ByteArray.size_append, ByteArray.size_append]; rfl
theorem pos_left (s t : ByteArray) : ∀ n, (∀ k, k < n → pos s k < s.size) → pos (s ++ blk ++ t) n = pos s n
  | 0, _ => rfl
  | n + 1, h => by
    have h1 := rd_sim (sim_left s t) (pos s n) (h n (by omega))
    rw [Nat.zero_add] at h1
    rw [pos_succ, pos_succ, pos_left s t n (fun k hk => h k (by omega)), h1]
theorem cnt_join {s t : ByteArray} {n m : Nat} (h : IsCnt s n) (k : IsCnt t m) : IsCnt (s ++ blk ++ t) (n + 1 + m) := by
  have hz := join_size s t
  have hb : bt (s ++ blk ++ t) s.size = 32 := by
    rcases (sim_left s t).stop with e | e
    · omega
    · rwa [Nat.zero_add] at e
  have p0 : pos (s ++ blk ++ t) n = s.size := by rw [pos_left s t n h.2, h.1]
  have p1 : pos (s ++ blk ++ t) (n + 1) = s.size + 1 := by rw [pos_succ, p0, rd_one _ _ (by omega)]
  have p2 : ∀ j, j ≤ m → pos (s ++ blk ++ t) (n + 1 + j) = s.size + 1 + pos t j := by
    intro j
    induction j with
    | zero => intro _; exact p1
    | succ j ih =>
      intro hj
      have h1 := rd_sim (sim_right s t) (pos t j) (k.2 j (by omega))
      rw [show n + 1 + (j + 1) = n + 1 + j + 1 by omega, pos_succ, ih (by omega), h1, pos_succ]
      omega
  refine ⟨by rw [p2 m (Nat.le_refl _), k.1, hz], fun i hi => ?_⟩
  rw [hz]
  rcases Nat.lt_trichotomy i n with hlt | rfl | hgt
  · rw [pos_left s t i (fun j hj => h.2 j (by omega))]
    have := h.2 i hlt
    omega
  · omega
  · obtain ⟨j, rfl⟩ : ∃ j, i = n + 1 + j := ⟨i - (n + 1), by omega⟩
    rw [p2 j (by omega)]
    have := k.2 j (by omega)
    omega
theorem cnt_join_eq (s t : ByteArray) : cnt (s ++ blk ++ t) = cnt s + 1 + cnt t := cnt_one (cnt_cnt _) (cnt_join (cnt_cnt s) (cnt_cnt t))
theorem cut_left (s t : ByteArray) (e : Nat) (h : e ≤ s.size) : (s ++ blk ++ t).extract 0 e = s.extract 0 e :=
  extract_eq (by omega) (by rw [join_size]; omega) (by omega) (fun j hj => by have := (sim_left s t).byte j (by omega); simpa using this)
theorem cut_right (s t : ByteArray) (e : Nat) (h : e ≤ t.size) : (s ++ blk ++ t).extract 0 (s.size + 1 + e) = s ++ blk ++ t.extract 0 e := by
  have ht : (t.extract 0 e).size = e := by rw [size_win t 0 e h]; omega
  have hz2 := join_size s (t.extract 0 e)
  rw [ht] at hz2
  rw [← extract_all (s ++ blk ++ t.extract 0 e)]
  refine extract_eq (Nat.le_refl _) (by rw [join_size]; omega) (by omega) (fun j hj => ?_)
  rw [Nat.zero_add]
  by_cases h1 : j < s.size
  · have a1 := (sim_left s t).byte j h1
    have a2 := (sim_left s (t.extract 0 e)).byte j h1
    rw [Nat.zero_add] at a1 a2
    rw [a1, a2]
  · by_cases h2 : j = s.size
    · subst h2
      have a1 := (sim_left s t).stop
      have a2 := (sim_left s (t.extract 0 e)).stop
      rw [Nat.zero_add, join_size] at a1 a2
      omega
    · obtain ⟨i, rfl⟩ : ∃ i, j = s.size + 1 + i := ⟨j - (s.size + 1), by omega⟩
      rw [(sim_right s t).byte i (by omega), (sim_right s (t.extract 0 e)).byte i (by omega), bt_win t 0 e i h (by omega), Nat.zero_add]
theorem cnt_left (s t : ByteArray) (e : Nat) (h : e ≤ s.size) : cnt ((s ++ blk ++ t).extract 0 e) = cnt (s.extract 0 e) := by rw [cut_left s t e h]
theorem cnt_right (s t : ByteArray) (e : Nat) (h : e ≤ t.size) : cnt ((s ++ blk ++ t).extract 0 (s.size + 1 + e)) = cnt s + 1 + cnt (t.extract 0 e) := by rw [cut_right s t e h, cnt_join_eq]
/-- the words of both, with their places -/
theorem full_join {s t : ByteArray} {a b : List Wd} (ha : ∀ w ∈ a, w.byte ≤ s.size) (hb : ∀ w ∈ b, w.byte ≤ t.size) :
    (a ++ b.map (Wd.move (s.size + 1))).map (full (s ++ blk ++ t)) = a.map (full s) ++ b.map (fun w => ⟨w.kind, w.text, w.num, s.size + 1 + w.byte, cnt s + 1 + cnt (t.extract 0 w.byte)⟩) := by
  rw [List.map_append, List.map_map]
  congr 1
  · refine List.map_congr_left (fun w hw => ?_)
    unfold full
    rw [cnt_left s t _ (ha w hw)]
  · refine List.map_congr_left (fun w hw => ?_)
    show (⟨w.kind, w.text, w.num, s.size + 1 + w.byte, cnt ((s ++ blk ++ t).extract 0 (s.size + 1 + w.byte))⟩ : FW) = _
    rw [cnt_right s t _ (hb w hw)]
end Go.Proofs.YthimmohbedaimaaDoor.Gl
