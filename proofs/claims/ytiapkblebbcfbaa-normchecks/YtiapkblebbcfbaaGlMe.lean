/- Striking out what stands twice; which lists rise; what Sorted and Union answer: plain mathematics. -/
import Derived.Test.YtiapkblebbcfbaaGlMd
import Derived.Test.YtiapkblebbcfbaaGlI
namespace Go.Proofs.Ytiapkblebbcfbaa.Gl
set_option linter.unusedVariables false

theorem get_bang (L : List L8) (j : Nat) (h : j < L.length) : L.toArray[j]! = L[j] := by
  rw [getElem!_pos L.toArray j (by simpa using h)]
  rfl
theorem comp_inv (L : List L8) (hL : L.Pairwise (fun a b => a < b ∨ a = b)) : ∀ m, m ≤ L.length → (Lib.compactUpTo L.toArray m).Pairwise (fun a b => a < b) ∧ ∀ x, x ∈ Lib.compactUpTo L.toArray m ↔ x ∈ L.take m := by
  intro m
  induction m with
  | zero => intro _; simp [Lib.compactUpTo]
  | succ m ih =>
    intro hm
    obtain ⟨h1, h2⟩ := ih (by omega)
    have hlt : m < L.length := by omega
    rw [Lib.compactUpTo_succ, get_bang L m hlt, List.take_succ_eq_append_getElem hlt]
    by_cases hk : Lib.keeps L.toArray m = true
    · rw [if_pos hk]
      refine ⟨?_, fun x => by rw [List.mem_append, List.mem_append, h2]⟩
      rw [List.pairwise_append]
      refine ⟨h1, by simp, fun a ha b hb => ?_⟩
      rw [List.mem_singleton] at hb
      subst hb
      rw [h2] at ha
      obtain ⟨i, hi, rfl⟩ := List.getElem_of_mem ha
      have hi' : i < m := by rw [List.length_take] at hi; omega
      rw [List.getElem_take]
      have hp := List.pairwise_iff_getElem.1 hL
      have hkk : m = 0 ∨ L.toArray[m]! ≠ L.toArray[m - 1]! := by unfold Lib.keeps at hk; exact of_decide_eq_true hk
      rw [get_bang L m hlt, get_bang L (m - 1) (by omega)] at hkk
      have hne := hkk.resolve_left (by omega)
      have hlast : L[m - 1] < L[m] := (hp (m - 1) m (by omega) hlt (by omega)).resolve_right (fun e => hne e.symm)
      rcases Nat.lt_or_eq_of_le (show i ≤ m - 1 by omega) with h | h
      · rcases hp i (m - 1) (by omega) (by omega) h with e | e
        · exact l_tr _ _ _ e hlast
        · rw [e]; exact hlast
      · subst h; exact hlast
    · rw [if_neg hk, List.append_nil]
      refine ⟨h1, fun x => ?_⟩
      rw [h2, List.mem_append, List.mem_singleton]
      refine ⟨.inl, fun h => ?_⟩
      rcases h with h | rfl
      · exact h
      · have hkk : ¬ (m = 0 ∨ L.toArray[m]! ≠ L.toArray[m - 1]!) := fun e => hk (by unfold Lib.keeps; exact decide_eq_true e)
        have hm0 : ¬ m = 0 := fun e => hkk (.inl e)
        have he : L.toArray[m]! = L.toArray[m - 1]! := Classical.byContradiction (fun e => hkk (.inr e))
        rw [get_bang L m hlt, get_bang L (m - 1) (by omega)] at he
        rw [he]
        refine List.mem_iff_getElem.2 ⟨m - 1, by rw [List.length_take]; omega, ?_⟩
        rw [List.getElem_take]
/-- struck out what stands twice in a row -/
def cmpt (L : List L8) : List ByteArray := un (Lib.compact L)
theorem cmpt_tog (T : List ByteArray) : cmpt ((tl T).mergeSort fun x y => decide (x ≤ y)) = togL T := by
  have hs := srt_le T
  unfold srt un at hs
  rw [List.pairwise_map] at hs
  have hL : ((tl T).mergeSort fun x y => decide (x ≤ y)).Pairwise (fun a b => a < b ∨ a = b) := hs.imp (fun {a b} h => by
    rw [lt_iff, ByteArray.toList_eq, ByteArray.toList_eq] at h
    rcases h with h | h
    · exact .inl h
    · have := congrArg (fun x : ByteArray => x.data.toList) h
      exact .inr (by simpa using this))
  have hm := srt_mem T
  unfold srt at hm
  generalize (tl T).mergeSort (fun x y => decide (x ≤ y)) = L at *
  obtain ⟨h1, h2⟩ := comp_inv L hL L.length (Nat.le_refl _)
  rw [List.take_length] at h2
  refine ris_unique ?_ (tog_ris T) (fun x => ?_)
  · show List.Pairwise _ (List.map _ _)
    rw [List.pairwise_map]
    refine h1.imp (fun {a b} h => ?_)
    rw [lt_iff, ByteArray.toList_eq, ByteArray.toList_eq]
    exact h
  · rw [tog_mem, ← hm]
    unfold cmpt un Lib.compact
    rw [List.mem_map, List.mem_map]
    exact ⟨fun ⟨y, a, b⟩ => ⟨y, (h2 y).1 a, b⟩, fun ⟨y, a, b⟩ => ⟨y, (h2 y).2 a, b⟩⟩
theorem cmpt_le (L : List L8) : (Lib.compact L).length ≤ L.length := by
  unfold Lib.compact Lib.compactUpTo
  rw [List.length_map]
  exact Nat.le_trans (List.length_filter_le _ _) (by simp)
theorem ris_adj {T : List ByteArray} (h : ∀ i, i < T.length → 0 < i → ltS (T.getD (i - 1) emp) (T.getD i emp) = true) : Ris T := by
  refine List.pairwise_iff_getElem.2 (fun i j hi hj hij => ?_)
  have key : ∀ d, i + d + 1 < T.length → ltS (T.getD i emp) (T.getD (i + d + 1) emp) = true := by
    intro d
    induction d with
    | zero => intro hd; exact h (i + 1) hd (by omega)
    | succ d ih =>
      intro hd
      exact s_tr (ih (by omega)) (h (i + (d + 1) + 1) hd (by omega))
  have := key (j - i - 1) (by omega)
  rw [show i + (j - i - 1) + 1 = j by omega, sgetD_of hi, sgetD_of hj] at this
  exact this
theorem rise_iff (T : List ByteArray) : Rise T ↔ (∀ x ∈ T, IsName x) ∧ Ris T := by
  constructor
  · intro h
    refine ⟨fun x hx => ?_, ris_adj (fun i hi hi0 => (h i hi).2 hi0)⟩
    obtain ⟨i, hi, rfl⟩ := List.getElem_of_mem hx
    have := (h i hi).1
    rwa [sgetD_of hi] at this
  · rintro ⟨h1, h2⟩ i hi
    refine ⟨by rw [sgetD_of hi]; exact h1 _ (List.getElem_mem hi), fun hi0 => ?_⟩
    rw [sgetD_of hi, sgetD_of (show i - 1 < T.length by omega)]
    exact List.pairwise_iff_getElem.1 h2 (i - 1) i (by omega) hi (by omega)
def Names (T : List ByteArray) : Prop := ∀ x ∈ T, IsName x
/-- what Sorted answers -/
def SortedIs (T r : List ByteArray) (er : Nat) : Prop := (¬ Names T ∧ r = [] ∧ er = 6) ∨ (Names T ∧ ¬ T.Nodup ∧ r = [] ∧ er = 5) ∨ (Names T ∧ T.Nodup ∧ r = togL T ∧ er = 0)
theorem sorted_is (T : List ByteArray) : ∃ r er, SortedIs T r er := by
  by_cases h1 : Names T
  · by_cases h2 : T.Nodup
    · exact ⟨_, _, .inr (.inr ⟨h1, h2, rfl, rfl⟩)⟩
    · exact ⟨_, _, .inr (.inl ⟨h1, h2, rfl, rfl⟩)⟩
  · exact ⟨_, _, .inl ⟨h1, rfl, rfl⟩⟩
theorem SortedIs.le {T r : List ByteArray} {er : Nat} (h : SortedIs T r er) : r.length ≤ T.length := by
  rcases h with ⟨_, rfl, _⟩ | ⟨_, _, rfl, _⟩ | ⟨_, _, rfl, _⟩
  · simp
  · simp
  · exact tog_length T
/-- what Union answers -/
def UnionIs (A B r : List ByteArray) (er : Nat) : Prop := (¬ (Rise A ∧ Rise B) ∧ r = [] ∧ er = 3) ∨ ((Rise A ∧ Rise B) ∧ r = togL (A ++ B) ∧ er = 0)
theorem union_is (A B : List ByteArray) : ∃ r er, UnionIs A B r er := by
  by_cases h1 : Rise A ∧ Rise B
  · exact ⟨_, _, .inr ⟨h1, rfl, rfl⟩⟩
  · exact ⟨_, _, .inl ⟨h1, rfl, rfl⟩⟩
theorem UnionIs.le {A B r : List ByteArray} {er : Nat} (h : UnionIs A B r er) : r.length ≤ A.length + B.length := by
  rcases h with ⟨_, rfl, _⟩ | ⟨_, rfl, _⟩
  · simp
  · have := tog_length (A ++ B)
    rwa [List.length_append] at this
theorem srt_rise {T : List ByteArray} (h : Names T) : Rise (srt T) ↔ T.Nodup := by
  rw [rise_iff]
  constructor
  · rintro ⟨_, h2⟩
    exact (srt_nodup T).1 (ris_nodup h2)
  · intro h2
    exact ⟨fun x hx => h x ((srt_mem T x).1 hx), srt_ris h2⟩
theorem Short.srt {T : List ByteArray} (h : Short T) : Short (srt T) := fun x hx => h x ((srt_mem T x).1 hx)
theorem Short.app {A B : List ByteArray} (h : Short A) (k : Short B) : Short (A ++ B) := fun x hx => by
  rcases List.mem_append.1 hx with e | e
  · exact h x e
  · exact k x e
end Go.Proofs.Ytiapkblebbcfbaa.Gl
