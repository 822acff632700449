/- What firstWord answers. -/
import Derived.Test.YtncgmnijgdfenaaGreatDoorLyD
import Derived.WalkSmall
import Derived.Laws.AppendOwnNone
import Derived.Test.YtncgmnijgdfenaaGreatDoorLyS
import Derived.Laws.StructEq
namespace Go.Proofs.YtncgmnijgdfenaaGreatDoor.Gl
open Go.RowKit
set_option linter.unusedVariables false

theorem run_digs {u : ByteArray} {p q : Nat} (h : RunTo isDig u p q) : p ≤ q ∧ ∀ j, p ≤ j → j < q → 48 ≤ bt u j ∧ bt u j ≤ 57 := by
  induction h with
  | nil => exact ⟨Nat.le_refl _, fun j h1 h2 => by omega⟩
  | @cons p q a b c _ ih =>
    have hd := of_decide_eq_true c
    obtain ⟨e1, e2, _⟩ := rd_ascii (s := u) (p := p) (by omega)
    rw [e2] at ih
    refine ⟨by omega, fun j h1 h2 => ?_⟩
    rcases Nat.lt_or_eq_of_le h1 with hlt | rfl
    · exact ih.2 j (by omega) h2
    · rw [e1]; exact hd
theorem digs_run {u : ByteArray} (h0 : 0 < u.size) (hok : (rdS u 0).2.2 = true) (hd : isDig (rdS u 0).1 = true) : Digs (u.extract 0 (run isDig u 0)) ∧ valF (u.extract 0 (run isDig u 0)) 0 (u.extract 0 (run isDig u 0)).size = valF u 0 (run isDig u 0 - 0) ∧ run isDig u 0 ≤ u.size := by
  have hle := (run_run isDig u 0).le_size (Nat.zero_le _)
  have hgt := run_gt h0 hok hd
  have hz := size_win u 0 (run isDig u 0) hle
  obtain ⟨_, hb⟩ := run_digs (run_run isDig u 0)
  refine ⟨⟨by omega, fun j hj => ?_⟩, ?_, hle⟩
  · rw [bt_win u 0 _ j hle (by omega), Nat.zero_add]
    exact hb j (Nat.zero_le _) (by omega)
  · rw [hz]
    exact valF_congr _ (fun j hj => by rw [Nat.zero_add, bt_win u 0 _ j hle (by omega), Nat.zero_add])
theorem name_run {u : ByteArray} (h0 : 0 < u.size) (hok : (rdS u 0).2.2 = true) (hst : stB ((rdS u 0).1 : Nat) = true) : run reN u 0 ≤ u.size ∧ (rsB (u.extract 0 (run reN u 0)) = false → (decide (cnt (u.extract 0 (run reN u 0)) ≤ 16) = true ↔ IsName (u.extract 0 (run reN u 0)))) := by
  have hle := (run_run reN u 0).le_size (Nat.zero_le _)
  have hgt := run_gt h0 hok (show reN (rdS u 0).1 = true from reB_of hst)
  have hz := size_win u 0 (run reN u 0) hle
  refine ⟨hle, fun hr => ?_⟩
  have hrt : RunTo reN (u.extract 0 (run reN u 0)) 0 (u.extract 0 (run reN u 0)).size := by
    rw [hz]
    exact (run_run reN u 0).win hle 0 (run reN u 0 - 0) (by omega) (by omega) (Nat.le_refl _)
  have e0 : rdS (u.extract 0 (run reN u 0)) 0 = rdS u 0 := rd_win u 0 _ 0 hle ((run_run reN u 0).bd.step hgt) hgt
  exact nm_iff hrt (by omega) (by rw [e0]; exact hst) hr
theorem fw_word (u : ByteArray) (w : World) (hS : Sg w) (h0 : 0 < u.size) (hu : u.size ≤ 4096) {k v q : Nat} {t : ByteArray} (h : tok u 0 = .word k t v q) :
    Calls Tryz.prog 55 #[.string u, .int .i32 ((rdS u 0).1 : Nat)] w fun e w' => e = .returned (.tuple #[wordV k t v 0 0, .int .i64 q, .int .i64 0]) ∧ Below w.heap.size w w' := by
  rcases tok_cases u 0 with ⟨_, e⟩ | ⟨hbl, ⟨_, e⟩ | ⟨hok, ⟨hst, hc⟩ | ⟨hst, hdg, ⟨_, e⟩ | ⟨hv, e⟩⟩ | ⟨hst, hdg, hpl, e⟩ | ⟨hst, hdg, hpl, ⟨_, e⟩ | ⟨hne, e⟩⟩⟩⟩
  · rw [h] at e; cases e
  · rw [h] at e; cases e
  · obtain ⟨hle, hnm⟩ := name_run h0 hok hst
    have hz : (u.extract 0 (run reN u 0)).size ≤ 4096 := by rw [size_win u 0 _ hle]; omega
    rcases hc with ⟨h1, e⟩ | ⟨_, _, e⟩ | ⟨h1, h2, e⟩
    · rw [h] at e; cases e
      exact fw_st u w _ 2 0 _ _ hu hst rfl hle (fun w => name_sign _ w hz h1)
    · rw [h] at e; cases e
    · rw [h] at e; cases e
      exact fw_st u w _ 0 0 _ _ hu hst rfl hle (fun w => name_name _ w hz h1 0 0 _ _ (hnm h1) (.inl ⟨decide_eq_true (by omega), rfl, rfl⟩))
  · rw [h] at e; cases e
  · rw [h] at e; cases e
    obtain ⟨hd, hval, hle⟩ := digs_run h0 hok hdg
    have hz : (u.extract 0 (run isDig u 0)).size ≤ 4096 := by rw [size_win u 0 _ hle]; omega
    exact fw_dig u w hS _ 1 0 _ _ emp hu hst hdg rfl hle (fun w _ => number_ok _ _ w hd hz hval (by omega))
  · rw [h] at e; cases e
    have hm : ((rdS u 0).1 : Int) ∈ marks := by
      by_cases hm : ((rdS u 0).1 : Int) ∈ marks
      · exact hm
      · exact absurd (pl_none _ (fun m h' e => hm (by rw [← e]; exact h'))) hpl
    exact fw_plain u w _ _ _ hu hst hdg rfl hpl (by rw [enc_marks _ hm, Nat.zero_add, wd_is hok]; rfl)
  · rw [h] at e; cases e
  · rw [h] at e; cases e
    have := fw_sign u w hS _ _ hu hst hdg hpl rfl hne
    rwa [Nat.zero_add]
theorem fw_bad (u : ByteArray) (w : World) (hS : Sg w) (h0 : 0 < u.size) (hu : u.size ≤ 4096) {c : Nat} (hok : (rdS u 0).2.2 = true) (h : tok u 0 = .bad c) :
    Calls Tryz.prog 55 #[.string u, .int .i32 ((rdS u 0).1 : Nat)] w fun e w' => ∃ z : Nat, e = .returned (.tuple #[wordV 0 emp 0 0 0, .int .i64 z, .int .i64 c]) ∧ Below w.heap.size w w' := by
  rcases tok_cases u 0 with ⟨_, e⟩ | ⟨hbl, ⟨ho, e⟩ | ⟨hok, ⟨hst, hc⟩ | ⟨hst, hdg, ⟨hv, e⟩ | ⟨hv, e⟩⟩ | ⟨hst, hdg, hpl, e⟩ | ⟨hst, hdg, hpl, ⟨hne, e⟩ | ⟨hne, e⟩⟩⟩⟩
  · rw [h] at e; cases e
  · rw [hok] at ho; cases ho
  · obtain ⟨hle, hnm⟩ := name_run h0 hok hst
    have hz : (u.extract 0 (run reN u 0)).size ≤ 4096 := by rw [size_win u 0 _ hle]; omega
    rcases hc with ⟨h1, e⟩ | ⟨h1, h2, e⟩ | ⟨h1, h2, e⟩
    · rw [h] at e; cases e
    · rw [h] at e; cases e
      exact (fw_st u w _ 0 6 _ emp hu hst rfl hle (fun w => name_name _ w hz h1 0 6 _ _ (hnm h1) (.inr ⟨decide_eq_false (by omega), rfl, rfl⟩))).mono fun e w' ⟨he, hb⟩ => ⟨_, he, hb⟩
    · rw [h] at e; cases e
  · rw [h] at e; cases e
    obtain ⟨hd, hval, hle⟩ := digs_run h0 hok hdg
    have hz : (u.extract 0 (run isDig u 0)).size ≤ 4096 := by rw [size_win u 0 _ hle]; omega
    exact (fw_dig u w hS _ 0 52 _ 0 emp hu hst hdg rfl hle (fun w hS => number_bad _ w hS hd hz (by rw [hval]; exact hv))).mono fun e w' ⟨he, hb⟩ => ⟨_, he, hb⟩
  · rw [h] at e; cases e
  · rw [h] at e; cases e
  · rw [h] at e; cases e
    exact (fw_none u w hS _ hu hst hdg hpl hne).mono fun e w' ⟨he, hb⟩ => ⟨0, he, hb⟩
  · rw [h] at e; cases e
end Go.Proofs.YtncgmnijgdfenaaGreatDoor.Gl
/- Words: where the loop stands; the append of a word. -/
namespace Go.Proofs.YtncgmnijgdfenaaGreatDoor.Gl
open Go.RowKit
set_option linter.unusedVariables false

abbrev anyC : Nat → Bool := fun _ => true
theorem RunTo.anyc {P : Nat → Bool} {s : ByteArray} {p q : Nat} (h : RunTo P s p q) : RunTo anyC s p q := by
  induction h with
  | nil => exact .nil _
  | cons a b c _ ih => exact .cons a b rfl ih
theorem any_ascii {s : ByteArray} : ∀ (n p : Nat), p + n ≤ s.size → (∀ j, j < n → bt s (p + j) < 128) → RunTo anyC s p (p + n)
  | 0, p, _, _ => .nil p
  | n + 1, p, h, hb => by
    have h0 := hb 0 (by omega)
    rw [Nat.add_zero] at h0
    have e := rd_one s p h0
    refine .cons (by omega) (by rw [e]) rfl ?_
    rw [e]
    have := any_ascii (s := s) n (p + 1) (by omega) (fun j hj => by have := hb (j + 1) (by omega); rwa [show p + 1 + j = p + (j + 1) by omega])
    rwa [show p + 1 + n = p + (n + 1) by omega] at this
theorem tok_any {s : ByteArray} {p k v q : Nat} {t : ByteArray} (hp : p < s.size) (h : tok s p = .word k t v q) : RunTo anyC s p q := by
  rcases tok_cases s p with ⟨_, e⟩ | ⟨hbl, ⟨_, e⟩ | ⟨hok, ⟨_, ⟨_, e⟩ | ⟨_, _, e⟩ | ⟨_, _, e⟩⟩ | ⟨_, _, ⟨_, e⟩ | ⟨_, e⟩⟩ | ⟨_, _, _, e⟩ | ⟨_, _, _, ⟨_, e⟩ | ⟨hne, e⟩⟩⟩⟩
  all_goals rw [h] at e
  all_goals cases e
  · exact (run_run reN s p).anyc
  · exact (run_run reN s p).anyc
  · exact (run_run isDig s p).anyc
  · exact .cons hp hok rfl (.nil _)
  · obtain ⟨h1, h2, _⟩ := sgn_mem hne
    have h3 := (fits_iff s p _).1 h1
    exact any_ascii _ p h3.1 (fun j hj => by rw [h3.2 j hj]; exact (signs_plain _ h2 j hj).2)
/-- where the loop of Words stands -/
structure Stand (s : ByteArray) (a : List Wd) (f : Option (Nat × Nat)) (k p e : Nat) (A : List Wd) : Prop where
  at_ : pos s k = p
  oks : Oks s k
  rest : ∃ m B, A ++ B = a ∧ Lx s m B f ∧ RunTo anyC s p m ∧ ((p < e ∧ m = e) ∨ (e ≤ p ∧ m = p))
theorem Stand.zero {s : ByteArray} {a : List Wd} {f : Option (Nat × Nat)} (h : Lx s 0 a f) : Stand s a f 0 0 0 [] :=
  ⟨rfl, fun j hj => absurd hj (by omega), 0, a, rfl, h, .nil 0, .inr ⟨Nat.le_refl _, rfl⟩⟩
theorem Stand.le {s : ByteArray} {a : List Wd} {f : Option (Nat × Nat)} {k p e : Nat} {A : List Wd} (h : Stand s a f k p e A) : k ≤ p ∧ p ≤ s.size := by
  have := pos_ge s k h.oks.lt
  rw [h.at_] at this
  exact this
theorem Stand.cnt {s : ByteArray} {a : List Wd} {f : Option (Nat × Nat)} {k p e : Nat} {A : List Wd} (h : Stand s a f k p e A) : cnt (s.extract 0 p) = k := by
  have := cnt_cut s k h.oks.lt
  rw [h.at_] at this
  exact cnt_one (cnt_cnt _) this
theorem Stand.fin {s : ByteArray} {a : List Wd} {f : Option (Nat × Nat)} {k p e : Nat} {A : List Wd} (h : Stand s a f k p e A) (hp : ¬ p < s.size) : f = none ∧ A = a := by
  obtain ⟨m, B, hA, hL, hR, _⟩ := h.rest
  have hm := hR.le
  cases hL with
  | done _ => exact ⟨rfl, by rw [List.append_nil] at hA; exact hA⟩
  | blank a _ _ => omega
  | bad a _ => omega
  | word a _ _ => omega
theorem Stand.oks' {s : ByteArray} {k p : Nat} (h : pos s k = p) (ho : Oks s k) (hp : p < s.size) (hok : (rdS s p).2.2 = true) : pos s (k + 1) = p + (rdS s p).2.1 ∧ Oks s (k + 1) := by
  refine ⟨by rw [pos_succ, h], fun j hj => ?_⟩
  rcases Nat.lt_succ_iff_lt_or_eq.1 hj with hj | rfl
  · exact ho j hj
  · rw [h]; exact ⟨hp, hok⟩
theorem Stand.skip {s : ByteArray} {a : List Wd} {f : Option (Nat × Nat)} {k p e : Nat} {A : List Wd} (h : Stand s a f k p e A) (hp : p < s.size) (he : p < e) : Stand s a f (k + 1) (p + (rdS s p).2.1) e A := by
  obtain ⟨m, B, hA, hL, hR, hm⟩ := h.rest
  obtain rfl : m = e := by omega
  cases hR with
  | nil => omega
  | cons _ hok _ hR =>
    obtain ⟨h1, h2⟩ := Stand.oks' h.at_ h.oks hp hok
    refine ⟨h1, h2, m, B, hA, hL, hR, ?_⟩
    have := hR.le
    omega
theorem Stand.here {s : ByteArray} {a : List Wd} {f : Option (Nat × Nat)} {k p e : Nat} {A : List Wd} (h : Stand s a f k p e A) (he : e ≤ p) : ∃ B, A ++ B = a ∧ Lx s p B f := by
  obtain ⟨m, B, hA, hL, hR, hm⟩ := h.rest
  obtain rfl : m = p := by omega
  exact ⟨B, hA, hL⟩
theorem Stand.blank {s : ByteArray} {a : List Wd} {f : Option (Nat × Nat)} {k p e : Nat} {A : List Wd} (h : Stand s a f k p e A) (hp : p < s.size) (he : e ≤ p) (hb : blB ((rdS s p).1 : Nat) = true) : Stand s a f (k + 1) (p + (rdS s p).2.1) e A := by
  obtain ⟨B, hA, hL⟩ := h.here he
  have ht : tok s p = .blank := by unfold tok; rw [if_pos hb]
  have h1 := (blank_one hb).1
  have hbt := (blank_one hb).2
  have hok : (rdS s p).2.2 = true := by
    refine rd_ok s p (fun e => ?_)
    rw [e] at hb
    exact absurd hb (by decide)
  obtain ⟨h2, h3⟩ := Stand.oks' h.at_ h.oks hp hok
  refine ⟨h2, h3, p + 1, B, hA, ?_, by rw [h1]; exact .nil _, .inr ⟨by omega, by rw [h1]⟩⟩
  cases hL with
  | done _ => omega
  | blank _ _ k => exact k
  | bad _ c => rw [ht] at c; cases c
  | word _ c _ => rw [ht] at c; cases c
theorem Stand.bad {s : ByteArray} {a : List Wd} {f : Option (Nat × Nat)} {k p e c : Nat} {A : List Wd} (h : Stand s a f k p e A) (hp : p < s.size) (he : e ≤ p) (ht : tok s p = .bad c) : f = some (c, p) := by
  obtain ⟨B, hA, hL⟩ := h.here he
  cases hL with
  | done _ => omega
  | blank _ d _ => rw [ht] at d; cases d
  | bad _ d => rw [ht] at d; cases d; rfl
  | word _ d _ => rw [ht] at d; cases d
theorem Stand.word {s : ByteArray} {a : List Wd} {f : Option (Nat × Nat)} {k p e kd v q : Nat} {t : ByteArray} {A : List Wd} (h : Stand s a f k p e A) (hp : p < s.size) (he : e ≤ p) (ht : tok s p = .word kd t v q) : Stand s a f (k + 1) (p + (rdS s p).2.1) q (A ++ [⟨kd, t, v, p⟩]) := by
  obtain ⟨B, hA, hL⟩ := h.here he
  have hr := tok_any hp ht
  have hto := tok_to hp ht
  cases hL with
  | done _ => omega
  | blank _ d _ => rw [ht] at d; cases d
  | bad _ d => rw [ht] at d; cases d
  | word _ d l =>
    rw [ht] at d; cases d
    cases hr with
    | nil => omega
    | cons _ hok _ hr =>
      obtain ⟨h1, h2⟩ := Stand.oks' h.at_ h.oks hp hok
      refine ⟨h1, h2, q, _, by rw [List.append_assoc]; exact hA, l, hr, ?_⟩
      have := hr.le
      omega
theorem Stand.len {s : ByteArray} {a : List Wd} {f : Option (Nat × Nat)} {k p e : Nat} {A : List Wd} (h : Stand s a f k p e A) : A.length ≤ a.length := by
  obtain ⟨m, B, hA, _⟩ := h.rest
  rw [← hA, List.length_append]; omega
theorem Lx.len {s : ByteArray} {p : Nat} {ws : List Wd} {f : Option (Nat × Nat)} (h : Lx s p ws f) : ws.length ≤ s.size := by
  have key : ws.length + p ≤ s.size + p ∧ (p ≤ s.size → ws.length + p ≤ s.size) := by
    induction h with
    | done h => exact ⟨by simp, fun h => by simpa using h⟩
    | blank a b _ ih => exact ⟨by omega, fun _ => by omega⟩
    | bad a b => exact ⟨by simp, fun h => by simpa using h⟩
    | word a b _ ih => have := tok_to a b; rw [List.length_cons]; exact ⟨by omega, fun _ => by omega⟩
  omega
/-- a window of the text to its end -/
theorem sim_end (s : ByteArray) (p : Nat) (hp : p ≤ s.size) : Sim s p (s.extract p s.size) where
  size := by rw [size_win s p s.size (Nat.le_refl _)]; omega
  byte := fun j hj => by rw [size_win s p s.size (Nat.le_refl _)] at hj; rw [bt_win s p s.size j (Nat.le_refl _) (by omega)]
  stop := .inl (by rw [size_win s p s.size (Nat.le_refl _)]; omega)
theorem tok_end (s : ByteArray) (p : Nat) (hp : p < s.size) : tok s p = (tok (s.extract p s.size) 0).move p ∧ rdS (s.extract p s.size) 0 = rdS s p := by
  have hz := size_win s p s.size (Nat.le_refl _)
  have := tok_sim (sim_end s p (Nat.le_of_lt hp)) (p := 0) (by omega)
  have hr := rd_sim (sim_end s p (Nat.le_of_lt hp)) 0 (by omega)
  exact ⟨this, hr.symm⟩
theorem Tryz.infoWord : (Tryz.prog.info? 116).map (fun i => (i.zero, i.size, i.bytes)) = some (some (wordV 0 emp 0 0 0), 5, 48) := by kernel_rfl
theorem wp_pushW {ops : Array Oper} {rest : List Oper} {o : Oper} {a : Act} {Q : Exit → Act → World → Prop} (Wc : World) (base : Nat) (hgd : o.guard = none) (s x : Operand)
    (ho : o.op = .call { callee := .builtin .append, args := #[s, x], argTypes := #[84, 84] }) (v : Value) (n : Nat) (O : List FW) (hs : a.eval s = v) (g : Nat) (d : FW) (hx : a.eval x = .slice (some ⟨g, 0, none⟩) 1 1)
    (hown : Wc.ownsRow base 116 5 v n (O.flatMap FW.cells)) (hcell : ∀ i, i < 5 → Wc.cell? ⟨g, i, none⟩ = d.cells[i]?) (hbase : base ≤ Wc.heap.size) (hk : n ≤ 4096)
    (h : ∀ v' w', w'.ownsRow base 116 5 v' (n + 1) ((O ++ [d]).flatMap FW.cells) → Below base Wc w' → wpList Tryz.prog ops Q rest (a.put o.dst v') w') : wpList Tryz.prog ops Q (o :: rest) a Wc := by
  obtain ⟨i0, hi, hz0, hz1, hz2⟩ := info_parts Tryz.infoWord
  refine wpList_append_own _ hgd s x 84 ho base 116 i0 _ 5 48 Tryz.underlying84 hi hz0 hz1 hz2 rfl (by decide) _ n _ hs hown ⟨g, 0, none⟩ 1 1 d.cells hx rfl ?_ ?_ (by unfold maxLen; omega) (by omega) hbase ?_
  · intro j u hj
    have hj5 : j < 5 := by
      have := (List.getElem?_eq_some_iff.1 hj).1
      exact this
    have := hcell j hj5
    rw [hj] at this
    rcases Nat.eq_zero_or_pos j with rfl | hp
    · exact this
    · simpa [Addr.add, Nat.ne_of_gt hp] using this
  · intro u hu
    simp only [FW.cells, List.mem_cons, List.not_mem_nil, or_false] at hu
    rcases hu with rfl | rfl | rfl | rfl | rfl <;> rfl
  · intro v' w' h1 h2 _
    refine h v' w' (by rw [List.flatMap_append]; simpa using h1) ((Below.refl base Wc).grown h2 hbase ?_)
    intro q hq
    have := hown.lt q hq
    omega
end Go.Proofs.YtncgmnijgdfenaaGreatDoor.Gl
/- What lex.Words must answer, as a statement on the call; the law's fixed and the walk of LexKinds out of it. -/
namespace Go.Proofs.YtncgmnijgdfenaaGreatDoor.Gl
open Go.RowKit
set_option linter.unusedVariables false

theorem Tryz.infoU8 : (Tryz.prog.info? 5).map (fun i => (i.zero, i.size, i.bytes)) = some (some (.int .u8 0), 1, 1) := by kernel_rfl
theorem flat_get (ws : List FW) (i r : Nat) (hr : r < 5) (hi : i < ws.length) : (ws.flatMap FW.cells)[i * 5 + r]? = (ws.getD i default).cells[r]? := by
  induction ws generalizing i with
  | nil => simp at hi
  | cons x ws ih =>
    have hx : x.cells.length = 5 := rfl
    rw [List.flatMap_cons]
    cases i with
    | zero =>
      rw [Nat.zero_mul, Nat.zero_add, List.getElem?_append_left (by omega)]
      rfl
    | succ i =>
      rw [List.getElem?_append_right (by omega), hx, show (i + 1) * 5 + r - 5 = i * 5 + r by omega, ih i (by simpa using hi)]
      rfl
theorem flat_len (ws : List FW) : (ws.flatMap FW.cells).length = ws.length * 5 := by
  induction ws with
  | nil => rfl
  | cons x ws ih =>
    rw [List.flatMap_cons, List.length_append, ih, List.length_cons]
    show 5 + ws.length * 5 = _
    omega
theorem rdw_of_owns {w : World} {base : Nat} {v : Value} {n : Nat} {ws : List FW} (hn : ws.length = n) (h : w.ownsRow base 116 5 v n (ws.flatMap FW.cells)) : ∃ ro cr, v = .slice ro n cr ∧ RdW w ro n cr ws := by
  have h' := h
  obtain ⟨hl, hv⟩ := h'
  rcases hv with ⟨rfl, hz⟩ | ⟨g, cap, cur, rfl, hg, hh, hnc, hcm, hcs, hx⟩
  · subst hz
    exact ⟨none, 0, rfl, hn, Nat.le_refl _, by omega, fun _ => rfl, fun i hi => by omega⟩
  · refine ⟨some ⟨g, 0, none⟩, cap, rfl, hn, hnc, hcm, (fun h => nomatch h), (fun i hi => ⟨g, 0, rfl, (Array.getElem?_eq_some_iff.1 hh).1, ?_⟩)⟩
    have key : ∀ r, r < 5 → w.cell? ⟨g, i * 5 + r, none⟩ = (ws.getD i default).cells[r]? := fun r hr => by
      rw [h.cellAt (i * 5 + r) (by omega), flat_get ws i r hr (by omega)]
    simp only [Nat.zero_add]
    exact ⟨key 0 (by omega), key 1 (by omega), key 2 (by omega), key 3 (by omega), key 4 (by omega)⟩
abbrev fau (c b k : Nat) : Value := .agg #[.int .i64 c, .int .i64 b, .int .i64 k]
/-- what lex.Words answers -/
structure LexC : Prop where
  long : ∀ (s : ByteArray) (w : World), Sg w → 4096 < s.size → s.size ≤ 9223372036854775807 → Calls Tryz.prog 33 #[.string s] w fun e w' => ∃ v, e = .returned (.tuple #[v, fau 70 0 0]) ∧ w'.ownsRow w.heap.size 116 5 v 0 [] ∧ Below w.heap.size w w'
  good : ∀ (s : ByteArray) (a : List Wd) (w : World), Sg w → s.size ≤ 4096 → Lx s 0 a none → Calls Tryz.prog 33 #[.string s] w fun e w' => ∃ v, e = .returned (.tuple #[v, fau 0 0 0]) ∧ w'.ownsRow w.heap.size 116 5 v a.length ((a.map (full s)).flatMap FW.cells) ∧ Below w.heap.size w w'
  bad : ∀ (s : ByteArray) (a : List Wd) (c p : Nat) (w : World), Sg w → s.size ≤ 4096 → Lx s 0 a (some (c, p)) → Calls Tryz.prog 33 #[.string s] w fun e w' => ∃ v, e = .returned (.tuple #[v, fau c p (cnt (s.extract 0 p))]) ∧ w'.ownsRow w.heap.size 116 5 v 0 [] ∧ Below w.heap.size w w'
abbrev fxt : ByteArray := ⟨#[120, 49, 32, 60, 61, 32, 48, 55]⟩
def Tk.isW (t : Tk) (k : Nat) (x : ByteArray) (v q : Nat) : Bool := match t with
  | .word k' y v' q' => k' == k && y.toList == x.toList && v' == v && q' == q
  | _ => false
def Tk.isB : Tk → Bool
  | .blank => true
  | _ => false
theorem Tk.of_isW {t : Tk} {k v q : Nat} {x : ByteArray} (h : t.isW k x v q = true) : t = .word k x v q := by
  unfold Tk.isW at h
  split at h
  · simp only [Bool.and_eq_true, beq_iff_eq] at h
    obtain ⟨⟨⟨h1, h2⟩, h3⟩, h4⟩ := h
    rw [h1, toList_inj h2, h3, h4]
  · cases h
theorem Tk.of_isB {t : Tk} (h : t.isB = true) : t = .blank := by
  cases t with
  | blank => rfl
  | bad e => cases h
  | word _ _ _ _ => cases h
theorem fx_lx : Lx fxt 0 [⟨0, ⟨#[120, 49]⟩, 0, 0⟩, ⟨2, ⟨#[60, 61]⟩, 0, 3⟩, ⟨1, emp, 7, 6⟩] none :=
  .word (by decide) (Tk.of_isW (q := 2) (by decide +kernel)) (.blank (by decide) (Tk.of_isB (by decide +kernel)) (.word (by decide) (Tk.of_isW (q := 5) (by decide +kernel)) (.blank (by decide) (Tk.of_isB (by decide +kernel)) (.word (by decide) (Tk.of_isW (q := 8) (by decide +kernel)) (.done (by decide))))))
theorem fx_full : ([⟨0, ⟨#[120, 49]⟩, 0, 0⟩, ⟨2, ⟨#[60, 61]⟩, 0, 3⟩, ⟨1, emp, 7, 6⟩] : List Wd).map (full fxt) = [⟨0, ⟨#[120, 49]⟩, 0, 0, 0⟩, ⟨2, ⟨#[60, 61]⟩, 0, 3, 3⟩, ⟨1, emp, 7, 6, 6⟩] := by
  have h0 : cnt (fxt.extract 0 0) = 0 := by decide +kernel
  have h3 : cnt (fxt.extract 0 3) = 3 := by decide +kernel
  have h6 : cnt (fxt.extract 0 6) = 6 := by decide +kernel
  simp only [List.map_cons, List.map_nil, full, h0, h3, h6]
theorem fx_cells {w : World} {ao : Option Addr} {c : Nat} (h : RdW w ao 3 c [⟨0, ⟨#[120, 49]⟩, 0, 0, 0⟩, ⟨2, ⟨#[60, 61]⟩, 0, 3, 3⟩, ⟨1, emp, 7, 6, 6⟩]) : ∃ g o, ao = some ⟨g, o, none⟩ ∧ g < w.heap.size ∧ w.cell? ⟨g, o + 1, none⟩ = some (.string ⟨#[120, 49]⟩) ∧ w.cell? ⟨g, o + 5, none⟩ = some (.int .i64 2) ∧ w.cell? ⟨g, o + 6, none⟩ = some (.string ⟨#[60, 61]⟩) ∧ w.cell? ⟨g, o + 7, none⟩ = some (.int .i64 0) ∧ w.cell? ⟨g, o + 8, none⟩ = some (.int .i64 3) ∧ w.cell? ⟨g, o + 9, none⟩ = some (.int .i64 3) ∧ w.cell? ⟨g, o + 12, none⟩ = some (.int .i64 7) := by
  obtain ⟨g, o, rfl, hg, p0, p1, p2, p3, p4⟩ := h.cell 0 (by omega)
  obtain ⟨g1, o1, e1, _, q0, q1, q2, q3, q4⟩ := h.cell 1 (by omega)
  obtain ⟨g2, o2, e2, _, r0, r1, r2, r3, r4⟩ := h.cell 2 (by omega)
  simp only [Option.some.injEq, Addr.mk.injEq, and_true] at e1 e2
  obtain ⟨rfl, rfl⟩ := e1
  obtain ⟨rfl, rfl⟩ := e2
  exact ⟨g, o, rfl, hg, p1, q0, q1, q2, q3, q4, r2⟩
theorem made_u8 (m : Nat) : ∀ x ∈ (madeCells (Value.int .u8 0).cells (m * 1)).toList, ∃ z : Nat, z < 256 ∧ x = .int .u8 z := by
  intro x hx
  have : (madeCells (Value.int .u8 0).cells (m * 1)).toList = List.replicate (m * 1) (.int .u8 0) := toList_madeCells_one _ _
  rw [this] at hx
  exact ⟨0, by omega, (List.mem_replicate.1 hx).2⟩
/-- 'string(b)' of a row of bytes: a text of as many -/
theorem conv_row {w : World} {base g m : Nat} {xs : List Value} (h : w.ownsRow base 5 1 (.slice (some ⟨g, 0, none⟩) m m) m xs) (hx : ∀ x ∈ xs, ∃ z : Nat, z < 256 ∧ x = .int .u8 z) :
    ∃ t : ByteArray, t.size = m ∧ (convert 72 9 (.slice (some ⟨g, 0, none⟩) m m)).run Tryz.prog w = .ok (.string t) w := by
  have hl := h.1
  obtain ⟨ns, hns⟩ : ∃ ns : List Int, xs = ns.map (Value.int .u8) := by
    clear hl h
    induction xs with
    | nil => exact ⟨[], rfl⟩
    | cons x xs ih =>
      obtain ⟨ns, e⟩ := ih (fun y hy => hx y (List.mem_cons_of_mem _ hy))
      obtain ⟨z, _, ez⟩ := hx x (List.mem_cons_self ..)
      exact ⟨(z : Int) :: ns, by rw [List.map_cons, e, ez]⟩
  have hload := run_loadCells_list (P := Tryz.prog) (w := w) ⟨g, 0, none⟩ xs (h.cells rfl)
  rw [hl, Nat.mul_one] at hload
  rw [run_convert_bytes_string _ 72 9 5 _ _ _ Tryz.underlying72 Tryz.underlying5 Tryz.underlying9, run_bytesToString w ⟨g, 0, none⟩ m m ns (by rw [hload, hns])]
  refine ⟨_, ?_, rfl⟩
  have key : ∀ (ns : List Int) (b : ByteArray), (ns.foldl (fun r n => r.push (UInt8.ofNat n.toNat)) b).size = b.size + ns.length := by
    intro ns
    induction ns with
    | nil => intro b; rfl
    | cons n ns ih => intro b; rw [List.foldl_cons, ih, ByteArray.size_push, List.length_cons]; omega
  rw [key]
  rw [hns, List.length_map] at hl
  show 0 + ns.length = m
  omega
end Go.Proofs.YtncgmnijgdfenaaGreatDoor.Gl
