/- The document's put, Together. -/
import Derived.Test.YtiapkblebbcfbaaGreatGlF
namespace Go.Proofs.YtiapkblebbcfbaaGreat.Gl
open Go.RowKit
set_option linter.unusedVariables false

theorem Tryz.infoStr : (Tryz.prog.info? 9).map (fun i => (i.zero, i.size, i.bytes)) = some (some (.string emp), 1, 16) := by kernel_rfl
theorem owns_below {w w' : World} {base : Nat} {e : TypeId} {v : Value} {n : Nat} {xs : List Value} (h : w.ownsRow base e 1 v n xs) (hb : Below w.heap.size w w') : w'.ownsRow base e 1 v n xs := by
  refine ⟨h.1, ?_⟩
  rcases h.2 with hn | ⟨g, cap, cur, rfl, hbg, hgg, rest⟩
  · exact .inl hn
  · refine .inr ⟨g, cap, cur, rfl, hbg, ?_, rest⟩
    rw [hb.block g (Array.getElem?_eq_some_iff.1 hgg).1]
    exact hgg
theorem rds_of_owns {w : World} {base : Nat} {t : TypeId} {v : Value} {k : Nat} {ss : List ByteArray} (h : w.ownsRow base t 1 v k (cellsS ss)) : ∃ ro cr, v = .slice ro k cr ∧ RdS w ro k cr ss := by
  have h' := h
  obtain ⟨hl, hv⟩ := h'
  simp only [List.length_map, Nat.mul_one] at hl
  rcases hv with ⟨rfl, hn⟩ | ⟨g, cap, cur, rfl, hg, hh, hnc, hcm, hcs, hx⟩
  · subst hn
    exact ⟨none, 0, rfl, hl, Nat.le_refl _, by omega, fun _ => rfl, fun i hi => by omega⟩
  · refine ⟨some ⟨g, 0, none⟩, cap, rfl, hl, hnc, hcm, (fun h => nomatch h), (fun i hi => ⟨g, 0, rfl, ?_⟩)⟩
    rw [Nat.zero_add, h.cellAt i (by omega), List.getElem?_map, List.getElem?_eq_getElem (by omega)]
    simp [List.getD_eq_getElem?_getD, List.getElem?_eq_getElem (show i < ss.length by omega)]
theorem cell_new1 (W : World) (v : Value) (t : TypeId) : (W.alloc (.cells #[v] t)).cell? ⟨W.heap.size, 0, none⟩ = some v := by simp
theorem size_new1 {W : World} {n : Nat} (h : n ≤ W.heap.size) (a : Obj) : n ≤ (W.alloc a).heap.size := by simp; omega
/-- 'out = append(out, s)', the new element in a block g of its own -/
theorem wp_pushS {ops : Array Oper} {rest : List Oper} {o : Oper} {a : Act} {Q : Exit → Act → World → Prop} (W0 Wc : World) (B base : Nat) (hgd : o.guard = none) (s x : Operand)
    (ho : o.op = .call { callee := .builtin .append, args := #[s, x], argTypes := #[26, 26] }) (v : Value) (k : Nat) (O : List ByteArray) (hs : a.eval s = v) (g : Nat) (d : ByteArray) (hx : a.eval x = .slice (some ⟨g, 0, none⟩) 1 1)
    (hown : Wc.ownsRow base 9 1 v k (cellsS O)) (hcell : Wc.cell? ⟨g, 0, none⟩ = some (.string d)) (hbase : base ≤ Wc.heap.size) (hk : (k + 1) * 16 ≤ 140737488355328) (hbel : Below B W0 Wc) (hB : B ≤ base)
    (h : ∀ v' w', w'.ownsRow base 9 1 v' (k + 1) (cellsS (O ++ [d])) → Below B W0 w' → wpList Tryz.prog ops Q rest (a.put o.dst v') w') : wpList Tryz.prog ops Q (o :: rest) a Wc := by
  obtain ⟨i0, hi, hz0, hz1, hz2⟩ := info_parts Tryz.infoStr
  refine wpList_append_own _ hgd s x 26 ho base 9 i0 (.string emp) 1 16 Tryz.underlying26 hi hz0 hz1 hz2 rfl (by decide) _ k _ hs hown ⟨g, 0, none⟩ 1 1 [.string d] hx rfl ?_ ?_ (by unfold maxLen; omega) (by omega) hbase ?_
  · intro j u hj
    match j, hj with
    | 0, hj => simp at hj; subst hj; simpa [Addr.add] using hcell
  · intro u hu; simp at hu; subst hu; rfl
  · intro v' w' h1 h2 _
    refine h v' w' (by simpa [cellsS] using h1) (hbel.grown h2 (by omega) ?_)
    intro q hq
    have := hown.lt q hq
    omega
def ltS (x y : ByteArray) : Bool := Op.bytesLess x.toList y.toList
def leS (x y : ByteArray) : Bool := Op.bytesLess x.toList y.toList || x.toList == y.toList
/-- a name put into a rising list -/
def putL (s : ByteArray) : List ByteArray → List ByteArray
  | [] => [s]
  | x :: l => if leS s x = true then (if ltS s x = true then s :: x :: l else x :: l) else x :: putL s l
theorem putL_length (s : ByteArray) (l : List ByteArray) : (putL s l).length ≤ l.length + 1 := by
  induction l with
  | nil => simp [putL]
  | cons x l ih =>
    rw [putL]
    split
    · split <;> simp
    · simp only [List.length_cons]; omega
theorem take_snoc (T : List ByteArray) (k : Nat) (h : k < T.length) : T.take (k + 1) = T.take k ++ [T.getD k emp] := by
  rw [List.take_succ_eq_append_getElem h, sgetD_of h]
theorem drop_cons (T : List ByteArray) (k : Nat) (h : k < T.length) : T.drop k = T.getD k emp :: T.drop (k + 1) := by
  rw [List.drop_eq_getElem_cons h, sgetD_of h]
set_option maxHeartbeats 2000000 in
theorem rput_at (ao : Option Addr) (n c : Nat) (T : List ByteArray) (s : ByteArray) (w : World) (h : RdS w ao n c T) (hn : (n + 2) * 16 ≤ 140737488355328) :
    Calls Tryz.prog 74 #[.slice ao n c, .string s] w fun e w' => ∃ v, e = .returned v ∧ w'.ownsRow w.heap.size 9 1 v (putL s T).length (cellsS (putL s T)) ∧ Below w.heap.size w w' := by
  have hcn := h.lecap
  have hcx := h.lemax
  have HT : Hid (T.length = n) := h.eqlen
  go_enter Tryz.func74, Tryz.ntmps74
  go_wp2
  go_loopw [5, 6, 7] (fun o d i wr => ∃ (k : Nat) (b : Bool) (O : List ByteArray), k ≤ n ∧ i = .int .i64 k ∧ d = .bool b ∧ O.length ≤ k + b.toNat ∧ wr.ownsRow w.heap.size 9 1 o O.length (cellsS O) ∧ Hid ((b = true → putL s T = O ++ T.drop k) ∧ (b = false → putL s T = O ++ putL s (T.drop k))) ∧ Below w.heap.size w wr) (fun _ _ i _ => n - (intOf i).toNat)
  case atStart => exact ⟨0, false, [], Nat.zero_le _, rfl, rfl, Nat.le_refl _, World.ownsRow_nil _ _ _ _, ⟨fun e => (by cases e), fun _ => rfl⟩, Below.refl _ _⟩
  case round =>
    obtain ⟨k, b, O, hk, rfl, rfl, hO1, hO, hinv, hB⟩ := hrel
    by_cases hlt : k < n
    · obtain ⟨bl, off, rfl, hc0⟩ := h.cell k hlt
      have hc := (hB.cell (p := ⟨bl, off + k, none⟩) (World.block_lt_of_cell? _ _ hc0)).trans hc0
      have HD : Hid (T.drop k = T.getD k emp :: T.drop (k + 1)) := drop_cons T k (by rw [HT.out]; exact hlt)
      have hlt0 := World.block_lt_of_cell? _ _ hc0
      generalize hx : T.getD k emp = x at *
      clear hx
      cases b with
      | true =>
        have hO2 : O.length ≤ k + 1 := hO1
        clear hO1
        have HY : Hid (putL s T = (O ++ [x]) ++ T.drop (k + 1)) := by show _ = _; rw [hinv.out.1 rfl, HD.out]; simp
        clear hinv
        go_wp2_with (at_builtin; refine wp_pushS w _ w.heap.size w.heap.size rfl (.tmp 34) (.tmp 39) rfl _ O.length O rfl wr.heap.size x rfl (hO.alloc _) (cell_new1 _ _ _) (size_new1 hB.size _) (by omega) (hB.alloc hB.size _) (Nat.le_refl _) ?_; intro v' w1 hO' hB')
        go_roundw
        case rel =>
          go_light
          exact ⟨k + 1, true, O ++ [x], by omega, by go_num, rfl, by simp only [List.length_append, List.length_singleton, Bool.toNat_true]; omega, by rw [List.length_append]; exact hO', ⟨fun _ => HY.out, fun e => (by cases e)⟩, hB'⟩
        case measure => simp [intOf]; omega
      | false =>
        have hO2 : O.length ≤ k := hO1
        clear hO1
        have hP := hinv.out.2 rfl
        have HP : Hid (putL s T = O ++ putL s (x :: T.drop (k + 1))) := by rw [← HD.out]; exact hP
        clear hP hinv
        have hneed : Hid (∀ y z, leS s x = y → ltS s x = z → (Op.bytesLess s.toList x.toList || s.toList == x.toList) = y ∧ Op.bytesLess s.toList x.toList = z) := fun y z h1 h2 => ⟨h1, h2⟩
        cases hle : leS s x with
        | true =>
          cases hls : ltS s x with
          | true =>
            have HY : Hid (putL s T = ((O ++ [s]) ++ [x]) ++ T.drop (k + 1)) := by show _ = _; rw [HP.out, putL, if_pos hle, if_pos hls]; simp
            obtain ⟨e1, e2⟩ := hneed.out _ _ hle hls
            rw [e2, Bool.true_or] at e1
            clear hneed HP hle hls e1
            go_wp2_with (first
              | (at_builtin; refine wp_pushS w _ w.heap.size w.heap.size rfl (.tmp 30) (.tmp 32) rfl _ O.length O rfl wr.heap.size s rfl (hO.alloc _) (cell_new1 _ _ _) (size_new1 hB.size _) (by omega) (hB.alloc hB.size _) (Nat.le_refl _) ?_; intro v1 w1 hOa hBa; have hc1 := (hBa.cell (p := ⟨bl, off + k, none⟩) hlt0).trans hc0)
              | (at_builtin; refine wp_pushS w _ w.heap.size w.heap.size rfl (.tmp 34) (.tmp 39) rfl _ (O.length + 1) (O ++ [s]) rfl w1.heap.size x rfl (hOa.alloc _) (cell_new1 _ _ _) (size_new1 hBa.size _) (by omega) (hBa.alloc hBa.size _) (Nat.le_refl _) ?_; intro v' w2 hO' hB'))
            go_roundw
            case rel =>
              go_light
              exact ⟨k + 1, true, (O ++ [s]) ++ [x], by omega, by go_num, rfl, by simp only [List.length_append, List.length_singleton, Bool.toNat_true]; omega, by rw [List.length_append, List.length_append]; exact hO', ⟨fun _ => HY.out, fun e => (by cases e)⟩, hB'⟩
            case measure => simp [intOf]; omega
          | false =>
            have HY : Hid (putL s T = (O ++ [x]) ++ T.drop (k + 1)) := by show _ = _; rw [HP.out, putL, if_pos hle, if_neg (by rw [hls]; simp)]; simp
            obtain ⟨e1, e2⟩ := hneed.out _ _ hle hls
            rw [e2, Bool.false_or] at e1
            clear hneed HP hle hls
            go_wp2_with (at_builtin; refine wp_pushS w _ w.heap.size w.heap.size rfl (.tmp 34) (.tmp 39) rfl _ O.length O rfl wr.heap.size x rfl (hO.alloc _) (cell_new1 _ _ _) (size_new1 hB.size _) (by omega) (hB.alloc hB.size _) (Nat.le_refl _) ?_; intro v' w1 hO' hB')
            go_roundw
            case rel =>
              go_light
              exact ⟨k + 1, true, O ++ [x], by omega, by go_num, rfl, by simp only [List.length_append, List.length_singleton, Bool.toNat_true]; omega, by rw [List.length_append]; exact hO', ⟨fun _ => HY.out, fun e => (by cases e)⟩, hB'⟩
            case measure => simp [intOf]; omega
        | false =>
          have HY : Hid (putL s T = (O ++ [x]) ++ putL s (T.drop (k + 1))) := by show _ = _; rw [HP.out, putL, if_neg (by rw [hle]; simp)]; simp
          have e0 : (Op.bytesLess s.toList x.toList || s.toList == x.toList) = false := hle
          rw [Bool.or_eq_false_iff] at e0
          obtain ⟨e1, e2⟩ := e0
          clear hneed HP hle
          go_wp2_with (at_builtin; refine wp_pushS w _ w.heap.size w.heap.size rfl (.tmp 34) (.tmp 39) rfl _ O.length O rfl wr.heap.size x rfl (hO.alloc _) (cell_new1 _ _ _) (size_new1 hB.size _) (by omega) (hB.alloc hB.size _) (Nat.le_refl _) ?_; intro v' w1 hO' hB')
          go_roundw
          case rel =>
            go_light
            exact ⟨k + 1, false, O ++ [x], by omega, by go_num, rfl, by simp only [List.length_append, List.length_singleton, Bool.toNat_false]; omega, by rw [List.length_append]; exact hO', ⟨fun e => (by cases e), fun _ => HY.out⟩, hB'⟩
          case measure => simp [intOf]; omega
    · obtain rfl : k = n := by omega
      have HD : Hid (T.drop k = []) := List.drop_of_length_le (by rw [HT.out]; exact Nat.le_refl _)
      cases b with
      | true =>
        have HY : Hid (putL s T = O) := by show _ = _; rw [hinv.out.1 rfl, HD.out, List.append_nil]
        clear hinv
        go_wp2
        go_ret
        exact ⟨_, rfl, by rw [HY.out]; exact hO, hB⟩
      | false =>
        have hO2 : O.length ≤ k := hO1
        clear hO1
        have HY : Hid (putL s T = O ++ [s]) := by show _ = _; rw [hinv.out.2 rfl, HD.out]; rfl
        clear hinv
        go_wp2_with (at_builtin; refine wp_pushS w _ w.heap.size w.heap.size rfl (.tmp 43) (.tmp 45) rfl _ O.length O rfl wr.heap.size s rfl (hO.alloc _) (cell_new1 _ _ _) (size_new1 hB.size _) (by omega) (hB.alloc hB.size _) (Nat.le_refl _) ?_; intro v' w1 hO' hB')
        go_ret
        exact ⟨_, rfl, by rw [HY.out, List.length_append]; exact hO', hB'⟩
end Go.Proofs.YtiapkblebbcfbaaGreat.Gl
/- The document's Together. -/
namespace Go.Proofs.YtiapkblebbcfbaaGreat.Gl
open Go.RowKit
set_option linter.unusedVariables false

theorem owns_mono {w : World} {base base' : Nat} {e : TypeId} {v : Value} {n : Nat} {xs : List Value} (h : w.ownsRow base e 1 v n xs) (hb : base' ≤ base) : w.ownsRow base' e 1 v n xs := by
  refine ⟨h.1, ?_⟩
  rcases h.2 with hn | ⟨g, cap, cur, rfl, hbg, rest⟩
  · exact .inl hn
  · exact .inr ⟨g, cap, cur, rfl, by omega, rest⟩
/-- the names of a list, rising, each once -/
def togL (l : List ByteArray) : List ByteArray := l.foldl (fun o s => putL s o) []
theorem tog_take (T : List ByteArray) (k : Nat) (h : k < T.length) : togL (T.take (k + 1)) = putL (T.getD k emp) (togL (T.take k)) := by
  unfold togL
  rw [take_snoc T k h, List.foldl_append]
  rfl
theorem fold_length (l O : List ByteArray) : (l.foldl (fun o s => putL s o) O).length ≤ O.length + l.length := by
  induction l generalizing O with
  | nil => simp
  | cons x l ih =>
    have h1 := ih (putL x O)
    have h2 := putL_length x O
    simp only [List.foldl_cons, List.length_cons]
    omega
theorem tog_length (l : List ByteArray) : (togL l).length ≤ l.length := by
  have := fold_length l []
  simpa [togL] using this
set_option maxHeartbeats 1000000 in
theorem rtogether_at (ao : Option Addr) (n c : Nat) (T : List ByteArray) (w : World) (h : RdS w ao n c T) (hn : (n + 2) * 16 ≤ 140737488355328) :
    Calls Tryz.prog 46 #[.slice ao n c] w fun e w' => ∃ v, e = .returned v ∧ w'.ownsRow w.heap.size 9 1 v (togL T).length (cellsS (togL T)) ∧ Below w.heap.size w w' := by
  have hcn := h.lecap
  have hcx := h.lemax
  have HT : Hid (T.length = n) := h.eqlen
  go_enter Tryz.func46, Tryz.ntmps46
  go_wp2
  go_loopw [3, 4] (fun o i wr => ∃ k : Nat, k ≤ n ∧ i = .int .i64 k ∧ wr.ownsRow w.heap.size 9 1 o (togL (T.take k)).length (cellsS (togL (T.take k))) ∧ Below w.heap.size w wr) (fun _ i _ => n - (intOf i).toNat)
  case atStart => exact ⟨0, Nat.zero_le _, rfl, World.ownsRow_nil _ _ _ _, Below.refl _ _⟩
  case round =>
    obtain ⟨k, hk, rfl, hO, hB⟩ := hrel
    by_cases hlt : k < n
    · obtain ⟨b, off, rfl, hc⟩ := (h.below (Nat.le_refl _) hB).cell k hlt
      have HS : Hid (togL (T.take (k + 1)) = putL (T.getD k emp) (togL (T.take k))) := tog_take T k (by rw [HT.out]; exact hlt)
      have hl := tog_length (T.take k)
      have hl2 : (T.take k).length = k := by rw [List.length_take, HT.out]; omega
      rw [hl2] at hl
      obtain ⟨a3, c3, rfl, hR3⟩ := rds_of_owns hO
      generalize hx : T.getD k emp = x at *
      generalize hy : togL (T.take k) = y at *
      clear hx hy hl2
      have hs := hB.size
      go_wp2_with (go_at_call 74; refine (rput_at _ _ _ y x _ hR3 (by omega)).mono ?_; rintro e w4 ⟨v4, rfl, hO4, hB4⟩)
      go_roundw
      case rel => exact ⟨k + 1, by omega, by go_num, by rw [HS.out]; exact owns_mono hO4 hs, hB.trans (hB4.mono hs)⟩
      case measure => simp [intOf]; omega
    · obtain rfl : k = n := by omega
      rw [List.take_of_length_le (by rw [HT.out]; exact Nat.le_refl _)] at hO
      go_wp2
      go_ret
      exact ⟨_, rfl, hO, hB⟩
end Go.Proofs.YtiapkblebbcfbaaGreat.Gl
