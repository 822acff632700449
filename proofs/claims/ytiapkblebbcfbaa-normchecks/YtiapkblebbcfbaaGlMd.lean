/- Texts in order; lists of texts that rise; sorting and striking out what stands twice: plain mathematics. -/
import Derived.Test.YtiapkblebbcfbaaGlH
import Derived.Sort.Walk0
import Derived.Lib.SlicesCompact
import Derived.Sort.EncStr
namespace Go.Proofs.Ytiapkblebbcfbaa.Gl
set_option linter.unusedVariables false

abbrev L8 := List UInt8
theorem u8_tri (a b : UInt8) : a < b ∨ a = b ∨ b < a := by
  rcases Nat.lt_trichotomy a.toNat b.toNat with h | h | h
  · exact .inl (UInt8.lt_iff_toNat_lt.2 h)
  · exact .inr (.inl (UInt8.toNat_inj.1 h))
  · exact .inr (.inr (UInt8.lt_iff_toNat_lt.2 h))
theorem u8_irr (a : UInt8) : ¬ a < a := fun h => by have := UInt8.lt_iff_toNat_lt.1 h; omega
theorem u8_tr {a b c : UInt8} (h : a < b) (k : b < c) : a < c := by
  have := UInt8.lt_iff_toNat_lt.1 h
  have := UInt8.lt_iff_toNat_lt.1 k
  exact UInt8.lt_iff_toNat_lt.2 (by omega)
theorem l_irr : ∀ a : L8, ¬ a < a
  | [], h => by simp at h
  | x :: a, h => by
    rw [List.cons_lt_cons_iff] at h
    rcases h with h | ⟨_, h⟩
    · exact u8_irr x h
    · exact l_irr a h
theorem l_tr : ∀ a b c : L8, a < b → b < c → a < c
  | a, b, [], _, k => by simp at k
  | a, [], z :: c, h, _ => by simp at h
  | [], y :: b, z :: c, _, _ => by simp
  | x :: a, y :: b, z :: c, h, k => by
    rw [List.cons_lt_cons_iff] at h k ⊢
    rcases h with h | ⟨rfl, h⟩
    · rcases k with k | ⟨rfl, k⟩
      · exact .inl (u8_tr h k)
      · exact .inl h
    · rcases k with k | ⟨rfl, k⟩
      · exact .inl k
      · exact .inr ⟨rfl, l_tr a b c h k⟩
theorem l_tri : ∀ a b : L8, a < b ∨ a = b ∨ b < a
  | [], [] => .inr (.inl rfl)
  | [], _ :: _ => .inl (by simp)
  | _ :: _, [] => .inr (.inr (by simp))
  | x :: a, y :: b => by
    rw [List.cons_lt_cons_iff, List.cons_lt_cons_iff]
    rcases u8_tri x y with h | rfl | h
    · exact .inl (.inl h)
    · rcases l_tri a b with h | rfl | h
      · exact .inl (.inr ⟨rfl, h⟩)
      · exact .inr (.inl rfl)
      · exact .inr (.inr (.inr ⟨rfl, h⟩))
    · exact .inr (.inr (.inl h))
theorem lt_iff (x y : ByteArray) : ltS x y = true ↔ x.toList < y.toList := by
  unfold ltS
  rw [bytesLess_eq, decide_eq_true_eq]
theorem le_iff (x y : ByteArray) : leS x y = true ↔ x.toList < y.toList ∨ x = y := by
  unfold leS
  rw [Bool.or_eq_true, bytesLess_eq, decide_eq_true_eq, eqS_iff]
theorem s_irr (x : ByteArray) : ¬ ltS x x = true := fun h => l_irr _ ((lt_iff x x).1 h)
theorem s_tr {x y z : ByteArray} (h : ltS x y = true) (k : ltS y z = true) : ltS x z = true := (lt_iff x z).2 (l_tr _ _ _ ((lt_iff x y).1 h) ((lt_iff y z).1 k))
theorem s_tri (x y : ByteArray) : ltS x y = true ∨ x = y ∨ ltS y x = true := by
  rw [lt_iff, lt_iff]
  rcases l_tri x.toList y.toList with h | h | h
  · exact .inl h
  · exact .inr (.inl (toList_inj h))
  · exact .inr (.inr h)
/-- the list rises -/
abbrev Ris (l : List ByteArray) : Prop := l.Pairwise (fun x y => ltS x y = true)
theorem ris_cons {x : ByteArray} {l : List ByteArray} : Ris (x :: l) ↔ (∀ y ∈ l, ltS x y = true) ∧ Ris l := List.pairwise_cons
theorem ris_unique {a b : List ByteArray} (ha : Ris a) (hb : Ris b) (h : ∀ x, x ∈ a ↔ x ∈ b) : a = b := by
  induction a generalizing b with
  | nil =>
    cases b with
    | nil => rfl
    | cons y b => exact absurd ((h y).2 (List.mem_cons_self ..)) (by simp)
  | cons x a ih =>
    cases b with
    | nil => exact absurd ((h x).1 (List.mem_cons_self ..)) (by simp)
    | cons y b =>
      rw [ris_cons] at ha hb
      have hxy : x = y := by
        rcases List.mem_cons.1 ((h x).1 (List.mem_cons_self ..)) with e | e
        · exact e
        · rcases List.mem_cons.1 ((h y).2 (List.mem_cons_self ..)) with f | f
          · exact f.symm
          · exact absurd (s_tr (ha.1 y f) (hb.1 x e)) (s_irr x)
      subst hxy
      rw [ih ha.2 hb.2 ?_]
      intro z
      constructor
      · intro hz
        rcases List.mem_cons.1 ((h z).1 (List.mem_cons_of_mem _ hz)) with e | e
        · subst e; exact absurd (ha.1 z hz) (s_irr z)
        · exact e
      · intro hz
        rcases List.mem_cons.1 ((h z).2 (List.mem_cons_of_mem _ hz)) with e | e
        · subst e; exact absurd (hb.1 z hz) (s_irr z)
        · exact e
theorem put_mem (s : ByteArray) (l : List ByteArray) (x : ByteArray) : x ∈ putL s l ↔ x = s ∨ x ∈ l := by
  induction l with
  | nil => simp [putL]
  | cons y l ih =>
    rw [putL]
    split
    · rename_i h
      split
      · simp
      · rename_i k
        rw [le_iff] at h
        rw [lt_iff] at k
        rcases h with h | rfl
        · exact absurd h k
        · simp
    · rw [List.mem_cons, ih, List.mem_cons]
      constructor
      · rintro (h | h | h)
        · exact .inr (.inl h)
        · exact .inl h
        · exact .inr (.inr h)
      · rintro (h | h | h)
        · exact .inr (.inl h)
        · exact .inl h
        · exact .inr (.inr h)
theorem put_ris (s : ByteArray) (l : List ByteArray) (h : Ris l) : Ris (putL s l) := by
  induction l with
  | nil => simp [putL]
  | cons y l ih =>
    have h' := h
    rw [ris_cons] at h
    rw [putL]
    split
    · split
      · rename_i k
        rw [ris_cons]
        refine ⟨fun z hz => ?_, h'⟩
        rcases List.mem_cons.1 hz with rfl | hz
        · exact k
        · exact s_tr k (h.1 z hz)
      · exact h'
    · rename_i k
      rw [ris_cons]
      refine ⟨fun z hz => ?_, ih h.2⟩
      rcases (put_mem s l z).1 hz with rfl | hz
      · rcases s_tri z y with e | e | e
        · exact absurd ((le_iff z y).2 (.inl ((lt_iff z y).1 e))) k
        · exact absurd ((le_iff z y).2 (.inr e)) k
        · exact e
      · exact h.1 z hz
open Classical in
theorem put_len (s : ByteArray) (l : List ByteArray) (h : Ris l) : (putL s l).length = if s ∈ l then l.length else l.length + 1 := by
  induction l with
  | nil => simp [putL]
  | cons y l ih =>
    have h' := h
    rw [ris_cons] at h
    rw [putL]
    split
    · rename_i k
      rw [le_iff] at k
      split
      · rename_i k2
        rw [if_neg]
        · simp
        · intro hm
          rcases List.mem_cons.1 hm with rfl | hm
          · exact s_irr _ k2
          · exact s_irr _ (s_tr k2 (h.1 s hm))
      · rename_i k2
        rw [lt_iff] at k2
        rcases k with k | rfl
        · exact absurd k k2
        · rw [if_pos (List.mem_cons_self ..)]
    · rename_i k
      rw [List.length_cons, ih h.2]
      have hne : s ≠ y := fun e => k ((le_iff s y).2 (.inr e))
      by_cases hm : s ∈ l
      · rw [if_pos hm, if_pos (List.mem_cons_of_mem _ hm), List.length_cons]
      · rw [if_neg hm, if_neg (fun e => by rcases List.mem_cons.1 e with e | e <;> contradiction), List.length_cons]
theorem fold_all (l O : List ByteArray) (h : Ris O) : Ris (l.foldl (fun o s => putL s o) O) ∧ (∀ x, x ∈ l.foldl (fun o s => putL s o) O ↔ x ∈ l ∨ x ∈ O) := by
  induction l generalizing O with
  | nil => exact ⟨h, fun x => by simp⟩
  | cons y l ih =>
    obtain ⟨h1, h2⟩ := ih (putL y O) (put_ris y O h)
    refine ⟨h1, fun x => ?_⟩
    rw [List.foldl_cons, h2, put_mem, List.mem_cons]
    constructor
    · rintro (h | h | h)
      · exact .inl (.inr h)
      · exact .inl (.inl h)
      · exact .inr h
    · rintro ((h | h) | h)
      · exact .inr (.inl h)
      · exact .inl h
      · exact .inr (.inr h)
theorem tog_ris (l : List ByteArray) : Ris (togL l) := (fold_all l [] List.Pairwise.nil).1
theorem tog_mem (l : List ByteArray) (x : ByteArray) : x ∈ togL l ↔ x ∈ l := by
  have := (fold_all l [] List.Pairwise.nil).2 x
  simpa [togL] using this
theorem ris_nodup {l : List ByteArray} (h : Ris l) : l.Nodup := h.imp (fun {x y} h e => by subst e; exact s_irr x h)
open Classical in
theorem fold_len (l O : List ByteArray) (h : Ris O) : (l.foldl (fun o s => putL s o) O).length = l.length + O.length ↔ l.Nodup ∧ ∀ x ∈ l, x ∉ O := by
  induction l generalizing O with
  | nil => simp
  | cons y l ih =>
    have hp := put_len y O h
    have hle := fold_length l (putL y O)
    have hi := ih (putL y O) (put_ris y O h)
    rw [List.foldl_cons, List.length_cons, List.nodup_cons]
    by_cases hm : y ∈ O
    · rw [if_pos hm] at hp
      constructor
      · intro he; omega
      · rintro ⟨_, h2⟩; exact absurd hm (h2 y (List.mem_cons_self ..))
    · rw [if_neg hm] at hp
      have e : l.length + 1 + O.length = l.length + (putL y O).length := by omega
      rw [e, hi]
      constructor
      · rintro ⟨h1, h2⟩
        refine ⟨⟨fun hy => h2 y hy ((put_mem y O y).2 (.inl rfl)), h1⟩, fun x hx => ?_⟩
        rcases List.mem_cons.1 hx with rfl | hx
        · exact hm
        · exact fun ho => h2 x hx ((put_mem y O x).2 (.inr ho))
      · rintro ⟨⟨h1, h2⟩, h3⟩
        refine ⟨h2, fun x hx ho => ?_⟩
        rcases (put_mem y O x).1 ho with rfl | ho
        · exact h1 hx
        · exact h3 x (List.mem_cons_of_mem _ hx) ho
theorem tog_len (l : List ByteArray) : (togL l).length = l.length ↔ l.Nodup := by
  have := fold_len l [] List.Pairwise.nil
  simpa [togL] using this
theorem tog_self {l : List ByteArray} (h : Ris l) : togL l = l := ris_unique (tog_ris l) h (tog_mem l)
/- between texts and lists of bytes -/
abbrev tl (T : List ByteArray) : List L8 := T.map (fun x => x.data.toList)
abbrev un (L : List L8) : List ByteArray := L.map (fun l => ⟨l.toArray⟩)
theorem un_tl (T : List ByteArray) : un (tl T) = T := by
  unfold un tl
  rw [List.map_map]
  exact (List.map_congr_left (g := id) (fun x _ => by cases x; simp)).trans (List.map_id _)
theorem cells_un (L : List L8) : cellsS (un L) = L.map encStr := by unfold cellsS un; rw [List.map_map]; rfl
theorem cells_tl (T : List ByteArray) : cellsS T = (tl T).map encStr := by
  conv => lhs; rw [← un_tl T]
  exact cells_un _
/-- sorted -/
def srt (T : List ByteArray) : List ByteArray := un ((tl T).mergeSort fun x y => decide (x ≤ y))
theorem srt_length (T : List ByteArray) : (srt T).length = T.length := by simp [srt]
theorem srt_mem (T : List ByteArray) (x : ByteArray) : x ∈ srt T ↔ x ∈ T := by
  have h : ∀ L L' : List L8, (∀ y, y ∈ L ↔ y ∈ L') → (x ∈ un L ↔ x ∈ un L') := fun L L' h => by
    rw [List.mem_map, List.mem_map]
    exact ⟨fun ⟨y, h1, h2⟩ => ⟨y, (h y).1 h1, h2⟩, fun ⟨y, h1, h2⟩ => ⟨y, (h y).2 h1, h2⟩⟩
  rw [srt, h _ (tl T) (fun y => (List.mergeSort_perm _ _).mem_iff), un_tl]
theorem srt_nodup (T : List ByteArray) : (srt T).Nodup ↔ T.Nodup := by
  have hp : (srt T).Perm T := by
    have := ((List.mergeSort_perm (tl T) fun x y => decide (x ≤ y)).map (fun l : L8 => (⟨l.toArray⟩ : ByteArray)))
    have e := un_tl T
    unfold un at e
    rw [e] at this
    exact this
  exact hp.nodup_iff
theorem l_le_tot (a b : L8) : (decide (a ≤ b) || decide (b ≤ a)) = true := by
  rw [Bool.or_eq_true, decide_eq_true_eq, decide_eq_true_eq]
  rcases l_tri a b with h | rfl | h
  · exact .inl (fun k => l_irr _ (l_tr _ _ _ h k))
  · exact .inl (l_irr _)
  · exact .inr (fun k => l_irr _ (l_tr _ _ _ h k))
theorem l_le_tr (a b c : L8) (h : decide (a ≤ b) = true) (k : decide (b ≤ c) = true) : decide (a ≤ c) = true := by
  rw [decide_eq_true_eq] at *
  intro hc
  rcases l_tri a b with e | rfl | e
  · exact k (l_tr _ _ _ hc e)
  · exact k hc
  · exact h e
theorem srt_le (T : List ByteArray) : (srt T).Pairwise (fun x y => ltS x y = true ∨ x = y) := by
  unfold srt un
  rw [List.pairwise_map]
  refine (List.pairwise_mergeSort (l_le_tr) (l_le_tot) (tl T)).imp ?_
  intro a b h
  rw [decide_eq_true_eq] at h
  rw [lt_iff]
  show _ ∨ _
  rw [ByteArray.toList_eq, ByteArray.toList_eq]
  rcases l_tri a b with e | rfl | e
  · exact .inl e
  · exact .inr rfl
  · exact absurd e h
/-- sorted without anything twice: it rises -/
theorem srt_ris {T : List ByteArray} (h : T.Nodup) : Ris (srt T) := by
  have h1 := srt_le T
  have h2 := (srt_nodup T).2 h
  exact (h1.and h2).imp (fun {x y} ⟨a, b⟩ => a.resolve_right b)
theorem srt_tog {T : List ByteArray} (h : T.Nodup) : srt T = togL T := ris_unique (srt_ris h) (tog_ris T) (fun x => by rw [srt_mem, tog_mem])
end Go.Proofs.Ytiapkblebbcfbaa.Gl
