/- Words of a text: names are names, numbers fit; RuneCountInString; where a reader begins. -/
import Derived.Test.YtabfhdmcljdjhaaDoorPcO
import Derived.Test.YtabfhdmcljdjhaaDoorLyT
import Derived.Test.YtabfhdmcljdjhaaDoorLyH
import Derived.Test.YtabfhdmcljdjhaaDoorNdH
import Derived.Test.YtabfhdmcljdjhaaDoorPaG
namespace Go.Proofs.YtabfhdmcljdjhaaDoor.Gl
open Go.RowKit
set_option linter.unusedVariables false
set_option linter.unusedSimpArgs false

theorem look_in (r : Int) : ∀ (ms : List Int) (xs : List ByteArray), look r ms xs = emp ∨ look r ms xs ∈ xs := by
  intro ms
  induction ms with
  | nil => intro xs; exact .inl (by cases xs <;> rfl)
  | cons m ms ih =>
    intro xs
    cases xs with
    | nil => exact .inl rfl
    | cons x xs =>
      rw [look]
      split
      · exact .inr (List.mem_cons_self ..)
      · rcases ih xs with h | h
        · exact .inl h
        · exact .inr (List.mem_cons_of_mem _ h)
theorem signs_small : ∀ x ∈ signs, x.size ≤ 3 := by decide +kernel
theorem allSigns_small : ∀ x ∈ allSigns, x.size ≤ 3 := by decide +kernel
theorem pl_small (r : Int) : (plB r).size ≤ 3 := by
  rcases look_in r marks signs with h | h
  · show (look r marks signs).size ≤ 3; rw [h]; decide
  · exact signs_small _ h
theorem sgn_small (s : ByteArray) (p : Nat) : (sgn s p).size ≤ 3 := by
  rcases longest_or s p allSigns emp with h | ⟨_, h, _⟩
  · show (longest s p allSigns emp).size ≤ 3; rw [h]; decide
  · exact allSigns_small _ h
theorem tok_ok {s : ByteArray} {p k v q : Nat} {t : ByteArray} (hp : p < s.size) (hs : s.size ≤ 4096) (h : tok s p = .word k t v q) : Sz t.size ∧ v ≤ 9223372036854775807 ∧ (k = 0 → IsName t) := by
  obtain ⟨he, hr⟩ := tok_end s p hp
  have hz := size_win s p s.size (Nat.le_refl _)
  generalize s.extract p s.size = u at he hr hz
  have hu0 : 0 < u.size := by omega
  rw [h] at he
  have hk : ∃ q', tok u 0 = .word k t v q' := by
    cases hq : tok u 0 with
    | blank => rw [hq] at he; cases he
    | bad e => rw [hq] at he; cases he
    | word k' t' v' q' => rw [hq] at he; cases he; exact ⟨_, rfl⟩
  obtain ⟨q', hk⟩ := hk
  rcases tok_cases u 0 with ⟨_, e⟩ | ⟨hbl, ⟨_, e⟩ | ⟨hok, ⟨hst, hc⟩ | ⟨hst, hdg, ⟨_, e⟩ | ⟨hv, e⟩⟩ | ⟨hst, hdg, hpl, e⟩ | ⟨hst, hdg, hpl, ⟨_, e⟩ | ⟨hne, e⟩⟩⟩⟩
  · rw [hk] at e; cases e
  · rw [hk] at e; cases e
  · obtain ⟨hle, hnm⟩ := name_run hu0 hok hst
    have hz : (u.extract 0 (run reN u 0)).size ≤ 4096 := by rw [size_win u 0 _ hle]; omega
    rcases hc with ⟨h1, e⟩ | ⟨_, _, e⟩ | ⟨h1, h2, e⟩
    · rw [hk] at e; cases e; exact ⟨by unfold Sz; omega, by omega, fun h => by cases h⟩
    · rw [hk] at e; cases e
    · rw [hk] at e; cases e; exact ⟨by unfold Sz; omega, by omega, fun _ => (hnm h1).1 (decide_eq_true (by omega))⟩
  · rw [hk] at e; cases e
  · rw [hk] at e; cases e; exact ⟨sz_emp, by omega, fun h => by cases h⟩
  · rw [hk] at e; cases e; exact ⟨by have := pl_small ((rdS u 0).1 : Nat); unfold Sz; omega, by omega, fun h => by cases h⟩
  · rw [hk] at e; cases e
  · rw [hk] at e; cases e; exact ⟨by have := sgn_small u 0; unfold Sz; omega, by omega, fun h => by cases h⟩
theorem Lx.fine {s : ByteArray} (hs : s.size ≤ 4096) {p : Nat} {ws : List Wd} {f : Option (Nat × Nat)} (h : Lx s p ws f) : (∀ y ∈ ws, (Sz y.text.size ∧ y.num ≤ 9223372036854775807) ∧ (y.kind = 0 → IsName y.text)) ∧ ws.length ≤ s.size - p := by
  induction h with
  | done => exact ⟨fun _ h => (nomatch h), Nat.zero_le _⟩
  | blank a _ _ ih => exact ⟨ih.1, by omega⟩
  | bad => exact ⟨fun _ h => (nomatch h), Nat.zero_le _⟩
  | word a b k ih =>
    have hto := tok_to a b
    have hok := tok_ok a hs b
    refine ⟨fun y hy => ?_, by simp only [List.length_cons]; omega⟩
    rcases List.mem_cons.1 hy with rfl | hy
    · exact ⟨⟨hok.1, hok.2.1⟩, hok.2.2⟩
    · exact ih.1 y hy
theorem Lx.wdok {s : ByteArray} (hs : s.size ≤ 4096) {ws : List Wd} {f : Option (Nat × Nat)} (h : Lx s 0 ws f) : WdOk ws := fun y hy => ((h.fine hs).1 y hy).1
theorem Lx.goodw {s : ByteArray} (hs : s.size ≤ 4096) {ws : List Wd} {f : Option (Nat × Nat)} (h : Lx s 0 ws f) : GoodW nmB ws := fun p x ⟨y, hy, hk, hx⟩ => by
  subst hx
  exact (nmB_iff _).2 (((h.fine hs).1 y (List.mem_of_getElem? hy)).2 hk)
set_option maxHeartbeats 1000000 in
theorem runecount_at (s : ByteArray) (w : World) (hs : s.size ≤ 9223372036854775807) :
    Calls Tryd.prog 20 #[.string s] w fun e w' => e = .returned (.int .i64 (cnt s : Nat)) ∧ Below w.heap.size w w' := by
  obtain ⟨n, hn0⟩ : ∃ n, cnt s = n := ⟨_, rfl⟩
  have HN : Hid (IsCnt s n) := by have := cnt_cnt s; rw [hn0] at this; exact this
  rw [hn0]
  clear hn0
  go_enter Tryd.func20, Tryd.ntmps20
  go_wp2
  go_loopw [2] (fun c wr => ∃ k : Nat, c = .int .i64 k ∧ wr = w.iter s (pos s k) ∧ Hid (∀ j, j < k → pos s j < s.size)) (fun _ wr => s.size - wr.iterPos w.heap.size)
  case atStart => exact ⟨0, rfl, rfl, fun j hj => absurd hj (by omega)⟩
  case round =>
    obtain ⟨k, rfl, rfl, hall⟩ := hrel
    obtain ⟨hg1, hg2⟩ := pos_ge s k hall.out
    by_cases hlt : pos s k < s.size
    · obtain ⟨hb1, hb2, hb3⟩ := rd_bd s (pos s k) hlt
      have HS : Hid (pos s (k + 1) = pos s k + (rdS s (pos s k)).2.1) := pos_succ s k
      have HA : Hid (∀ j, j < k + 1 → pos s j < s.size) := fun j hj => by
        rcases Nat.lt_succ_iff_lt_or_eq.1 hj with hj | rfl
        · exact hall.out j hj
        · exact hlt
      have hnx := next_at w s (pos s k) _ _ hlt rfl rfl
      generalize hp : pos s k = p at *
      clear hp
      generalize hr : (rdS s p).1 = r at *
      generalize hw : (rdS s p).2.1 = wd at *
      clear hr hw
      go_wp2
      go_roundw
      case rel => exact ⟨k + 1, by go_num, by rw [HS.out], HA⟩
      case measure => simp only [World.iterPos_iter]; omega
    · have HE : Hid ((k : Int) = (n : Int)) := by
        have := cnt_one HN.out ⟨by omega, hall.out⟩
        show _ = _
        omega
      have hnx := fun ty => run_next_end (P := Tryd.prog) w s (pos s k) ty hlt
      go_wp2
      go_ret
      exact ⟨ret1 HE.out, iter_below _ _ _⟩
/-- where a reader begins -/
theorem Ps.start {W w : World} {s : ByteArray} {ws : List Wd} {ao : Option Addr} {n cap b : Nat} (hT : TxW W s ws ao n cap) (hb : W.heap.size ≤ b) (hB : Below W.heap.size W w) (hR : Rb w b (rdC (.slice ao n cap) s.size (cnt s) 0 0 0) 67) : Ps ⟨W, s, ws, ao, n, cap, b⟩ w (.at 0) := by
  refine ⟨hT, hb, hB, Nat.zero_le _, ao, cap, fun hlt => ?_, by rw [Nat.sub_zero]; exact hR⟩
  obtain ⟨g, off, e, _⟩ := hT.rd.cell 0 hlt
  exact ⟨g, off, e, by rw [e]; simp, by rw [Nat.sub_zero]; exact hT.rd.lecap, Nat.le_refl _⟩
/-- what a text is as a formula: the formula, or why not and where -/
inductive An (s : ByteArray) : Option Fm → Nat → Nat → Nat → Prop
  | long : 4096 < s.size → An s none 70 0 0
  | lex {a c p} : s.size ≤ 4096 → Lx s 0 a (some (c, p)) → An s none c p (cnt (s.extract 0 p))
  | bad {a y q} : s.size ≤ 4096 → Lx s 0 a none → Fin6 a (.bad y q) → An s none y (pcB s a q) (pcC s a q)
  | many {a f q} : s.size ≤ 4096 → Lx s 0 a none → Fin6 a (.ok f q) → chk nmB f ≠ 0 → An s none (chk nmB f) 0 0
  | ok {a f q} : s.size ≤ 4096 → Lx s 0 a none → Fin6 a (.ok f q) → chk nmB f = 0 → An s (some f) 0 0 0
theorem An.ex (s : ByteArray) : ∃ o c b k, An s o c b k := by
  by_cases h : 4096 < s.size
  · exact ⟨_, _, _, _, .long h⟩
  · obtain ⟨a, f, hl⟩ := Lx.ex s
    cases f with
    | some cp => obtain ⟨c, p⟩ := cp; exact ⟨_, _, _, _, .lex (by omega) hl⟩
    | none =>
      obtain ⟨r, hr⟩ := Fin6.ex a
      cases r with
      | bad y q => exact ⟨_, _, _, _, .bad (by omega) hl hr⟩
      | ok f q =>
        by_cases h0 : chk nmB f = 0
        · exact ⟨_, _, _, _, .ok (by omega) hl hr h0⟩
        · exact ⟨_, _, _, _, .many (by omega) hl hr h0⟩
abbrev nilF : Value := .agg #[.int .i64 0, .string emp, .int .i64 0, .slice none 0 0, .slice none 0 0]
/-- the value beside a fault, or the formula's, its lists in blocks from B on -/
def FmA (B : Nat) (w : World) (o : Option Fm) (v : Value) : Prop := ∃ op xs m bo n1 c1 ao n c, v = .agg #[.int .i64 op, .string xs, .int .i64 m, .slice bo n1 c1, .slice ao n c] ∧ (o = none → v = nilF) ∧ ∀ f, o = some f → RdFn (Ge B) w f (.int .i64 op) (.string xs) (.int .i64 m) (.slice bo n1 c1) (.slice ao n c)
end Go.Proofs.YtabfhdmcljdjhaaDoor.Gl
