/- Texts in order; lists of texts that rise; sorting and striking out what stands twice: plain mathematics. -/
import Derived.Test.YtiapkblebbcfbaaGreatGlH
import Derived.Sort.Walk0
import Derived.Lib.SlicesCompact
import Derived.Sort.EncStr
import Derived.Test.YtiapkblebbcfbaaGreatGlI
namespace Go.Proofs.YtiapkblebbcfbaaGreat.Gl
set_option linter.unusedVariables false

abbrev L8 := List UInt8
theorem u8_tri (a b : UInt8) : a < b ∨ a = b ∨ b < a := by
  rcases Nat.lt_trichotomy a.toNat b.toNat with h | h | h
  · exact .inl (UInt8.lt_iff_toNat_lt.2 h)
  · exact .inr (.inl (UInt8.toNat_inj.1 h))
  · exact .inr (.inr (UInt8.lt_iff_toNat_lt.2 h))
theorem u8_irr (a : UInt8) : ¬ a < a := fun h => by have := UInt8.lt_iff_toNat_lt.1 h; omega
theorem u8_tr {a b c : UInt8} (h : a < b) (k : b < c) : a < c := by
  have := UInt8.lt_iff_toNat_lt.1 h
  have := UInt8.lt_iff_toNat_lt.1 k
  exact UInt8.lt_iff_toNat_lt.2 (by omega)
theorem l_irr : ∀ a : L8, ¬ a < a
  | [], h => by simp at h
  | x :: a, h => by
    rw [List.cons_lt_cons_iff] at h
    rcases h with h | ⟨_, h⟩
    · exact u8_irr x h
    · exact l_irr a h
theorem l_tr : ∀ a b c : L8, a < b → b < c → a < c
  | a, b, [], _, k => by simp at k
  | a, [], z :: c, h, _ => by simp at h
  | [], y :: b, z :: c, _, _ => by simp
  | x :: a, y :: b, z :: c, h, k => by
    rw [List.cons_lt_cons_iff] at h k ⊢
    rcases h with h | ⟨rfl, h⟩
    · rcases k with k | ⟨rfl, k⟩
      · exact .inl (u8_tr h k)
      · exact .inl h
    · rcases k with k | ⟨rfl, k⟩
      · exact .inl k
      · exact .inr ⟨rfl, l_tr a b c h k⟩
theorem l_tri : ∀ a b : L8, a < b ∨ a = b ∨ b < a
  | [], [] => .inr (.inl rfl)
  | [], _ :: _ => .inl (by simp)
  | _ :: _, [] => .inr (.inr (by simp))
  | x :: a, y :: b => by
    rw [List.cons_lt_cons_iff, List.cons_lt_cons_iff]
    rcases u8_tri x y with h | rfl | h
    · exact .inl (.inl h)
    · rcases l_tri a b with h | rfl | h
      · exact .inl (.inr ⟨rfl, h⟩)
      · exact .inr (.inl rfl)
      · exact .inr (.inr (.inr ⟨rfl, h⟩))
    · exact .inr (.inr (.inl h))
theorem lt_iff (x y : ByteArray) : ltS x y = true ↔ x.toList < y.toList := by
  unfold ltS
  rw [bytesLess_eq, decide_eq_true_eq]
theorem le_iff (x y : ByteArray) : leS x y = true ↔ x.toList < y.toList ∨ x = y := by
  unfold leS
  rw [Bool.or_eq_true, bytesLess_eq, decide_eq_true_eq, eqS_iff]
theorem s_irr (x : ByteArray) : ¬ ltS x x = true := fun h => l_irr _ ((lt_iff x x).1 h)
theorem s_tr {x y z : ByteArray} (h : ltS x y = true) (k : ltS y z = true) : ltS x z = true := (lt_iff x z).2 (l_tr _ _ _ ((lt_iff x y).1 h) ((lt_iff y z).1 k))
theorem s_tri (x y : ByteArray) : ltS x y = true ∨ x = y ∨ ltS y x = true := by
  rw [lt_iff, lt_iff]
  rcases l_tri x.toList y.toList with h | h | h
  · exact .inl h
  · exact .inr (.inl (toList_inj h))
  · exact .inr (.inr h)
/-- the list rises -/
abbrev Ris (l : List ByteArray) : Prop := l.Pairwise (fun x y => ltS x y = true)
theorem ris_cons {x : ByteArray} {l : List ByteArray} : Ris (x :: l) ↔ (∀ y ∈ l, ltS x y = true) ∧ Ris l := List.pairwise_cons
theorem ris_unique {a b : List ByteArray} (ha : Ris a) (hb : Ris b) (h : ∀ x, x ∈ a ↔ x ∈ b) : a = b := by
  induction a generalizing b with
  | nil =>
    cases b with
    | nil => rfl
    | cons y b => exact absurd ((h y).2 (List.mem_cons_self ..)) (by simp)
  | cons x a ih =>
    cases b with
    | nil => exact absurd ((h x).1 (List.mem_cons_self ..)) (by simp)
    | cons y b =>
      rw [ris_cons] at ha hb
      have hxy : x = y := by
        rcases List.mem_cons.1 ((h x).1 (List.mem_cons_self ..)) with e | e
        · exact e
        · rcases List.mem_cons.1 ((h y).2 (List.mem_cons_self ..)) with f | f
          · exact f.symm
          · exact absurd (s_tr (ha.1 y f) (hb.1 x e)) (s_irr x)
      subst hxy
      rw [ih ha.2 hb.2 ?_]
      intro z
      constructor
      · intro hz
        rcases List.mem_cons.1 ((h z).1 (List.mem_cons_of_mem _ hz)) with e | e
        · subst e; exact absurd (ha.1 z hz) (s_irr z)
        · exact e
      · intro hz
        rcases List.mem_cons.1 ((h z).2 (List.mem_cons_of_mem _ hz)) with e | e
        · subst e; exact absurd (hb.1 z hz) (s_irr z)
        · exact e
theorem put_mem (s : ByteArray) (l : List ByteArray) (x : ByteArray) : x ∈ putL s l ↔ x = s ∨ x ∈ l := by
  induction l with
  | nil => simp [putL]
  | cons y l ih =>
    rw [putL]
    split
    · rename_i h
      split
      · simp
      · rename_i k
        rw [le_iff] at h
        rw [lt_iff] at k
        rcases h with h | rfl
        · exact absurd h k
        · simp
    · rw [List.mem_cons, ih, List.mem_cons]
      constructor
      · rintro (h | h | h)
        · exact .inr (.inl h)
        · exact .inl h
        · exact .inr (.inr h)
      · rintro (h | h | h)
        · exact .inr (.inl h)
        · exact .inl h
        · exact .inr (.inr h)
theorem put_ris (s : ByteArray) (l : List ByteArray) (h : Ris l) : Ris (putL s l) := by
  induction l with
  | nil => simp [putL]
  | cons y l ih =>
    have h' := h
    rw [ris_cons] at h
    rw [putL]
    split
    · split
      · rename_i k
        rw [ris_cons]
        refine ⟨fun z hz => ?_, h'⟩
        rcases List.mem_cons.1 hz with rfl | hz
        · exact k
        · exact s_tr k (h.1 z hz)
      · exact h'
    · rename_i k
      rw [ris_cons]
      refine ⟨fun z hz => ?_, ih h.2⟩
      rcases (put_mem s l z).1 hz with rfl | hz
      · rcases s_tri z y with e | e | e
        · exact absurd ((le_iff z y).2 (.inl ((lt_iff z y).1 e))) k
        · exact absurd ((le_iff z y).2 (.inr e)) k
        · exact e
      · exact h.1 z hz
open Classical in
theorem put_len (s : ByteArray) (l : List ByteArray) (h : Ris l) : (putL s l).length = if s ∈ l then l.length else l.length + 1 := by
  induction l with
  | nil => simp [putL]
  | cons y l ih =>
    have h' := h
    rw [ris_cons] at h
    rw [putL]
    split
    · rename_i k
      rw [le_iff] at k
      split
      · rename_i k2
        rw [if_neg]
        · simp
        · intro hm
          rcases List.mem_cons.1 hm with rfl | hm
          · exact s_irr _ k2
          · exact s_irr _ (s_tr k2 (h.1 s hm))
      · rename_i k2
        rw [lt_iff] at k2
        rcases k with k | rfl
        · exact absurd k k2
        · rw [if_pos (List.mem_cons_self ..)]
    · rename_i k
      rw [List.length_cons, ih h.2]
      have hne : s ≠ y := fun e => k ((le_iff s y).2 (.inr e))
      by_cases hm : s ∈ l
      · rw [if_pos hm, if_pos (List.mem_cons_of_mem _ hm), List.length_cons]
      · rw [if_neg hm, if_neg (fun e => by rcases List.mem_cons.1 e with e | e <;> contradiction), List.length_cons]
theorem fold_all (l O : List ByteArray) (h : Ris O) : Ris (l.foldl (fun o s => putL s o) O) ∧ (∀ x, x ∈ l.foldl (fun o s => putL s o) O ↔ x ∈ l ∨ x ∈ O) := by
  induction l generalizing O with
  | nil => exact ⟨h, fun x => by simp⟩
  | cons y l ih =>
    obtain ⟨h1, h2⟩ := ih (putL y O) (put_ris y O h)
    refine ⟨h1, fun x => ?_⟩
    rw [List.foldl_cons, h2, put_mem, List.mem_cons]
    constructor
    · rintro (h | h | h)
      · exact .inl (.inr h)
      · exact .inl (.inl h)
      · exact .inr h
    · rintro ((h | h) | h)
      · exact .inr (.inl h)
      · exact .inl h
      · exact .inr (.inr h)
theorem tog_ris (l : List ByteArray) : Ris (togL l) := (fold_all l [] List.Pairwise.nil).1
theorem tog_mem (l : List ByteArray) (x : ByteArray) : x ∈ togL l ↔ x ∈ l := by
  have := (fold_all l [] List.Pairwise.nil).2 x
  simpa [togL] using this
theorem ris_nodup {l : List ByteArray} (h : Ris l) : l.Nodup := h.imp (fun {x y} h e => by subst e; exact s_irr x h)
open Classical in
theorem fold_len (l O : List ByteArray) (h : Ris O) : (l.foldl (fun o s => putL s o) O).length = l.length + O.length ↔ l.Nodup ∧ ∀ x ∈ l, x ∉ O := by
  induction l generalizing O with
  | nil => simp
  | cons y l ih =>
    have hp := put_len y O h
    have hle := fold_length l (putL y O)
    have hi := ih (putL y O) (put_ris y O h)
    rw [List.foldl_cons, List.length_cons, List.nodup_cons]
    by_cases hm : y ∈ O
    · rw [if_pos hm] at hp
      constructor
      · intro he; omega
      · rintro ⟨_, h2⟩; exact absurd hm (h2 y (List.mem_cons_self ..))
    · rw [if_neg hm] at hp
      have e : l.length + 1 + O.length = l.length + (putL y O).length := by omega
      rw [e, hi]
      constructor
      · rintro ⟨h1, h2⟩
        refine ⟨⟨fun hy => h2 y hy ((put_mem y O y).2 (.inl rfl)), h1⟩, fun x hx => ?_⟩
        rcases List.mem_cons.1 hx with rfl | hx
        · exact hm
        · exact fun ho => h2 x hx ((put_mem y O x).2 (.inr ho))
      · rintro ⟨⟨h1, h2⟩, h3⟩
        refine ⟨h2, fun x hx ho => ?_⟩
        rcases (put_mem y O x).1 ho with rfl | ho
        · exact h1 hx
        · exact h3 x (List.mem_cons_of_mem _ hx) ho
theorem tog_len (l : List ByteArray) : (togL l).length = l.length ↔ l.Nodup := by
  have := fold_len l [] List.Pairwise.nil
  simpa [togL] using this
theorem tog_self {l : List ByteArray} (h : Ris l) : togL l = l := ris_unique (tog_ris l) h (tog_mem l)
/- between texts and lists of bytes -/
abbrev tl (T : List ByteArray) : List L8 := T.map (fun x => x.data.toList)
abbrev un (L : List L8) : List ByteArray := L.map (fun l => ⟨l.toArray⟩)
theorem un_tl (T : List ByteArray) : un (tl T) = T := by
  unfold un tl
  rw [List.map_map]
  exact (List.map_congr_left (g := id) (fun x _ => by cases x; simp)).trans (List.map_id _)
theorem cells_un (L : List L8) : cellsS (un L) = L.map encStr := by unfold cellsS un; rw [List.map_map]; rfl
theorem cells_tl (T : List ByteArray) : cellsS T = (tl T).map encStr := by
  conv => lhs; rw [← un_tl T]
  exact cells_un _
/-- sorted -/
def srt (T : List ByteArray) : List ByteArray := un ((tl T).mergeSort fun x y => decide (x ≤ y))
theorem srt_length (T : List ByteArray) : (srt T).length = T.length := by simp [srt]
theorem srt_mem (T : List ByteArray) (x : ByteArray) : x ∈ srt T ↔ x ∈ T := by
  have h : ∀ L L' : List L8, (∀ y, y ∈ L ↔ y ∈ L') → (x ∈ un L ↔ x ∈ un L') := fun L L' h => by
    rw [List.mem_map, List.mem_map]
    exact ⟨fun ⟨y, h1, h2⟩ => ⟨y, (h y).1 h1, h2⟩, fun ⟨y, h1, h2⟩ => ⟨y, (h y).2 h1, h2⟩⟩
  rw [srt, h _ (tl T) (fun y => (List.mergeSort_perm _ _).mem_iff), un_tl]
theorem srt_nodup (T : List ByteArray) : (srt T).Nodup ↔ T.Nodup := by
  have hp : (srt T).Perm T := by
    have := ((List.mergeSort_perm (tl T) fun x y => decide (x ≤ y)).map (fun l : L8 => (⟨l.toArray⟩ : ByteArray)))
    have e := un_tl T
    unfold un at e
    rw [e] at this
    exact this
  exact hp.nodup_iff
theorem l_le_tot (a b : L8) : (decide (a ≤ b) || decide (b ≤ a)) = true := by
  rw [Bool.or_eq_true, decide_eq_true_eq, decide_eq_true_eq]
  rcases l_tri a b with h | rfl | h
  · exact .inl (fun k => l_irr _ (l_tr _ _ _ h k))
  · exact .inl (l_irr _)
  · exact .inr (fun k => l_irr _ (l_tr _ _ _ h k))
theorem l_le_tr (a b c : L8) (h : decide (a ≤ b) = true) (k : decide (b ≤ c) = true) : decide (a ≤ c) = true := by
  rw [decide_eq_true_eq] at *
  intro hc
  rcases l_tri a b with e | rfl | e
  · exact k (l_tr _ _ _ hc e)
  · exact k hc
  · exact h e
theorem srt_le (T : List ByteArray) : (srt T).Pairwise (fun x y => ltS x y = true ∨ x = y) := by
  unfold srt un
  rw [List.pairwise_map]
  refine (List.pairwise_mergeSort (l_le_tr) (l_le_tot) (tl T)).imp ?_
  intro a b h
  rw [decide_eq_true_eq] at h
  rw [lt_iff]
  show _ ∨ _
  rw [ByteArray.toList_eq, ByteArray.toList_eq]
  rcases l_tri a b with e | rfl | e
  · exact .inl e
  · exact .inr rfl
  · exact absurd e h
/-- sorted without anything twice: it rises -/
theorem srt_ris {T : List ByteArray} (h : T.Nodup) : Ris (srt T) := by
  have h1 := srt_le T
  have h2 := (srt_nodup T).2 h
  exact (h1.and h2).imp (fun {x y} ⟨a, b⟩ => a.resolve_right b)
theorem srt_tog {T : List ByteArray} (h : T.Nodup) : srt T = togL T := ris_unique (srt_ris h) (tog_ris T) (fun x => by rw [srt_mem, tog_mem])
end Go.Proofs.YtiapkblebbcfbaaGreat.Gl
/- Striking out what stands twice; which lists rise; what Sorted and Union answer: plain mathematics. -/
namespace Go.Proofs.YtiapkblebbcfbaaGreat.Gl
set_option linter.unusedVariables false

theorem get_bang (L : List L8) (j : Nat) (h : j < L.length) : L.toArray[j]! = L[j] := by
  rw [getElem!_pos L.toArray j (by simpa using h)]
  rfl
theorem comp_inv (L : List L8) (hL : L.Pairwise (fun a b => a < b ∨ a = b)) : ∀ m, m ≤ L.length → (Lib.compactUpTo L.toArray m).Pairwise (fun a b => a < b) ∧ ∀ x, x ∈ Lib.compactUpTo L.toArray m ↔ x ∈ L.take m := by
  intro m
  induction m with
  | zero => intro _; simp [Lib.compactUpTo]
  | succ m ih =>
    intro hm
    obtain ⟨h1, h2⟩ := ih (by omega)
    have hlt : m < L.length := by omega
    rw [Lib.compactUpTo_succ, get_bang L m hlt, List.take_succ_eq_append_getElem hlt]
    by_cases hk : Lib.keeps L.toArray m = true
    · rw [if_pos hk]
      refine ⟨?_, fun x => by rw [List.mem_append, List.mem_append, h2]⟩
      rw [List.pairwise_append]
      refine ⟨h1, by simp, fun a ha b hb => ?_⟩
      rw [List.mem_singleton] at hb
      subst hb
      rw [h2] at ha
      obtain ⟨i, hi, rfl⟩ := List.getElem_of_mem ha
      have hi' : i < m := by rw [List.length_take] at hi; omega
      rw [List.getElem_take]
      have hp := List.pairwise_iff_getElem.1 hL
      have hkk : m = 0 ∨ L.toArray[m]! ≠ L.toArray[m - 1]! := by unfold Lib.keeps at hk; exact of_decide_eq_true hk
      rw [get_bang L m hlt, get_bang L (m - 1) (by omega)] at hkk
      have hne := hkk.resolve_left (by omega)
      have hlast : L[m - 1] < L[m] := (hp (m - 1) m (by omega) hlt (by omega)).resolve_right (fun e => hne e.symm)
      rcases Nat.lt_or_eq_of_le (show i ≤ m - 1 by omega) with h | h
      · rcases hp i (m - 1) (by omega) (by omega) h with e | e
        · exact l_tr _ _ _ e hlast
        · rw [e]; exact hlast
      · subst h; exact hlast
    · rw [if_neg hk, List.append_nil]
      refine ⟨h1, fun x => ?_⟩
      rw [h2, List.mem_append, List.mem_singleton]
      refine ⟨.inl, fun h => ?_⟩
      rcases h with h | rfl
      · exact h
      · have hkk : ¬ (m = 0 ∨ L.toArray[m]! ≠ L.toArray[m - 1]!) := fun e => hk (by unfold Lib.keeps; exact decide_eq_true e)
        have hm0 : ¬ m = 0 := fun e => hkk (.inl e)
        have he : L.toArray[m]! = L.toArray[m - 1]! := Classical.byContradiction (fun e => hkk (.inr e))
        rw [get_bang L m hlt, get_bang L (m - 1) (by omega)] at he
        rw [he]
        refine List.mem_iff_getElem.2 ⟨m - 1, by rw [List.length_take]; omega, ?_⟩
        rw [List.getElem_take]
/-- struck out what stands twice in a row -/
def cmpt (L : List L8) : List ByteArray := un (Lib.compact L)
theorem cmpt_tog (T : List ByteArray) : cmpt ((tl T).mergeSort fun x y => decide (x ≤ y)) = togL T := by
  have hs := srt_le T
  unfold srt un at hs
  rw [List.pairwise_map] at hs
  have hL : ((tl T).mergeSort fun x y => decide (x ≤ y)).Pairwise (fun a b => a < b ∨ a = b) := hs.imp (fun {a b} h => by
    rw [lt_iff, ByteArray.toList_eq, ByteArray.toList_eq] at h
    rcases h with h | h
    · exact .inl h
    · have := congrArg (fun x : ByteArray => x.data.toList) h
      exact .inr (by simpa using this))
  have hm := srt_mem T
  unfold srt at hm
  generalize (tl T).mergeSort (fun x y => decide (x ≤ y)) = L at *
  obtain ⟨h1, h2⟩ := comp_inv L hL L.length (Nat.le_refl _)
  rw [List.take_length] at h2
  refine ris_unique ?_ (tog_ris T) (fun x => ?_)
  · show List.Pairwise _ (List.map _ _)
    rw [List.pairwise_map]
    refine h1.imp (fun {a b} h => ?_)
    rw [lt_iff, ByteArray.toList_eq, ByteArray.toList_eq]
    exact h
  · rw [tog_mem, ← hm]
    unfold cmpt un Lib.compact
    rw [List.mem_map, List.mem_map]
    exact ⟨fun ⟨y, a, b⟩ => ⟨y, (h2 y).1 a, b⟩, fun ⟨y, a, b⟩ => ⟨y, (h2 y).2 a, b⟩⟩
theorem cmpt_le (L : List L8) : (Lib.compact L).length ≤ L.length := by
  unfold Lib.compact Lib.compactUpTo
  rw [List.length_map]
  exact Nat.le_trans (List.length_filter_le _ _) (by simp)
theorem ris_adj {T : List ByteArray} (h : ∀ i, i < T.length → 0 < i → ltS (T.getD (i - 1) emp) (T.getD i emp) = true) : Ris T := by
  refine List.pairwise_iff_getElem.2 (fun i j hi hj hij => ?_)
  have key : ∀ d, i + d + 1 < T.length → ltS (T.getD i emp) (T.getD (i + d + 1) emp) = true := by
    intro d
    induction d with
    | zero => intro hd; exact h (i + 1) hd (by omega)
    | succ d ih =>
      intro hd
      exact s_tr (ih (by omega)) (h (i + (d + 1) + 1) hd (by omega))
  have := key (j - i - 1) (by omega)
  rw [show i + (j - i - 1) + 1 = j by omega, sgetD_of hi, sgetD_of hj] at this
  exact this
theorem rise_iff (T : List ByteArray) : Rise T ↔ (∀ x ∈ T, IsName x) ∧ Ris T := by
  constructor
  · intro h
    refine ⟨fun x hx => ?_, ris_adj (fun i hi hi0 => (h i hi).2 hi0)⟩
    obtain ⟨i, hi, rfl⟩ := List.getElem_of_mem hx
    have := (h i hi).1
    rwa [sgetD_of hi] at this
  · rintro ⟨h1, h2⟩ i hi
    refine ⟨by rw [sgetD_of hi]; exact h1 _ (List.getElem_mem hi), fun hi0 => ?_⟩
    rw [sgetD_of hi, sgetD_of (show i - 1 < T.length by omega)]
    exact List.pairwise_iff_getElem.1 h2 (i - 1) i (by omega) hi (by omega)
def Names (T : List ByteArray) : Prop := ∀ x ∈ T, IsName x
/-- what Sorted answers -/
def SortedIs (T r : List ByteArray) (er : Nat) : Prop := (¬ Names T ∧ r = [] ∧ er = 6) ∨ (Names T ∧ ¬ T.Nodup ∧ r = [] ∧ er = 5) ∨ (Names T ∧ T.Nodup ∧ r = togL T ∧ er = 0)
theorem sorted_is (T : List ByteArray) : ∃ r er, SortedIs T r er := by
  by_cases h1 : Names T
  · by_cases h2 : T.Nodup
    · exact ⟨_, _, .inr (.inr ⟨h1, h2, rfl, rfl⟩)⟩
    · exact ⟨_, _, .inr (.inl ⟨h1, h2, rfl, rfl⟩)⟩
  · exact ⟨_, _, .inl ⟨h1, rfl, rfl⟩⟩
theorem SortedIs.le {T r : List ByteArray} {er : Nat} (h : SortedIs T r er) : r.length ≤ T.length := by
  rcases h with ⟨_, rfl, _⟩ | ⟨_, _, rfl, _⟩ | ⟨_, _, rfl, _⟩
  · simp
  · simp
  · exact tog_length T
/-- what Union answers -/
def UnionIs (A B r : List ByteArray) (er : Nat) : Prop := (¬ (Rise A ∧ Rise B) ∧ r = [] ∧ er = 3) ∨ ((Rise A ∧ Rise B) ∧ r = togL (A ++ B) ∧ er = 0)
theorem union_is (A B : List ByteArray) : ∃ r er, UnionIs A B r er := by
  by_cases h1 : Rise A ∧ Rise B
  · exact ⟨_, _, .inr ⟨h1, rfl, rfl⟩⟩
  · exact ⟨_, _, .inl ⟨h1, rfl, rfl⟩⟩
theorem UnionIs.le {A B r : List ByteArray} {er : Nat} (h : UnionIs A B r er) : r.length ≤ A.length + B.length := by
  rcases h with ⟨_, rfl, _⟩ | ⟨_, rfl, _⟩
  · simp
  · have := tog_length (A ++ B)
    rwa [List.length_append] at this
theorem srt_rise {T : List ByteArray} (h : Names T) : Rise (srt T) ↔ T.Nodup := by
  rw [rise_iff]
  constructor
  · rintro ⟨_, h2⟩
    exact (srt_nodup T).1 (ris_nodup h2)
  · intro h2
    exact ⟨fun x hx => h x ((srt_mem T x).1 hx), srt_ris h2⟩
theorem Short.srt {T : List ByteArray} (h : Short T) : Short (srt T) := fun x hx => h x ((srt_mem T x).1 hx)
theorem Short.app {A B : List ByteArray} (h : Short A) (k : Short B) : Short (A ++ B) := fun x hx => by
  rcases List.mem_append.1 hx with e | e
  · exact h x e
  · exact k x e
end Go.Proofs.YtiapkblebbcfbaaGreat.Gl
