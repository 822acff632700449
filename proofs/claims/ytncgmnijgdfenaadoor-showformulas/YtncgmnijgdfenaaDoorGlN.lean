/- The document's put, Together. -/
import Derived.Test.YtncgmnijgdfenaaDoorLxF
import Derived.Deep.RegionWith
import Derived.Deep.RegionHeld3
import Derived.Deep.QuietTactic
import Derived.BigQuiet
import Derived.Deep.DrawnRows
import Derived.Test.YtncgmnijgdfenaaDoorGlE
import Derived.Laws.RangeAny
import Derived.Laws.StructEq
namespace Go.Proofs.YtncgmnijgdfenaaDoor.Gl
open Go.RowKit
set_option linter.unusedVariables false

theorem Tryd.infoStr : (Tryd.prog.info? 9).map (fun i => (i.zero, i.size, i.bytes)) = some (some (.string emp), 1, 16) := by kernel_rfl
theorem owns_below {w w' : World} {base : Nat} {e : TypeId} {v : Value} {n : Nat} {xs : List Value} (h : w.ownsRow base e 1 v n xs) (hb : Below w.heap.size w w') : w'.ownsRow base e 1 v n xs := by
  refine ⟨h.1, ?_⟩
  rcases h.2 with hn | ⟨g, cap, cur, rfl, hbg, hgg, rest⟩
  · exact .inl hn
  · refine .inr ⟨g, cap, cur, rfl, hbg, ?_, rest⟩
    rw [hb.block g (Array.getElem?_eq_some_iff.1 hgg).1]
    exact hgg
theorem rds_of_owns {w : World} {base : Nat} {t : TypeId} {v : Value} {k : Nat} {ss : List ByteArray} (h : w.ownsRow base t 1 v k (cellsS ss)) : ∃ ro cr, v = .slice ro k cr ∧ RdS w ro k cr ss := by
  have h' := h
  obtain ⟨hl, hv⟩ := h'
  simp only [List.length_map, Nat.mul_one] at hl
  rcases hv with ⟨rfl, hn⟩ | ⟨g, cap, cur, rfl, hg, hh, hnc, hcm, hcs, hx⟩
  · subst hn
    exact ⟨none, 0, rfl, hl, Nat.le_refl _, by omega, fun _ => rfl, fun i hi => by omega⟩
  · refine ⟨some ⟨g, 0, none⟩, cap, rfl, hl, hnc, hcm, (fun h => nomatch h), (fun i hi => ⟨g, 0, rfl, ?_⟩)⟩
    rw [Nat.zero_add, h.cellAt i (by omega), List.getElem?_map, List.getElem?_eq_getElem (by omega)]
    simp [List.getD_eq_getElem?_getD, List.getElem?_eq_getElem (show i < ss.length by omega)]
theorem cell_new1 (W : World) (v : Value) (t : TypeId) : (W.alloc (.cells #[v] t)).cell? ⟨W.heap.size, 0, none⟩ = some v := by simp
theorem size_new1 {W : World} {n : Nat} (h : n ≤ W.heap.size) (a : Obj) : n ≤ (W.alloc a).heap.size := by simp; omega
/-- 'out = append(out, s)', the new element in a block g of its own -/
theorem wp_pushS {ops : Array Oper} {rest : List Oper} {o : Oper} {a : Act} {Q : Exit → Act → World → Prop} (W0 Wc : World) (B base : Nat) (hgd : o.guard = none) (s x : Operand)
    (ho : o.op = .call { callee := .builtin .append, args := #[s, x], argTypes := #[49, 49] }) (v : Value) (k : Nat) (O : List ByteArray) (hs : a.eval s = v) (g : Nat) (d : ByteArray) (hx : a.eval x = .slice (some ⟨g, 0, none⟩) 1 1)
    (hown : Wc.ownsRow base 9 1 v k (cellsS O)) (hcell : Wc.cell? ⟨g, 0, none⟩ = some (.string d)) (hbase : base ≤ Wc.heap.size) (hk : (k + 1) * 16 ≤ 140737488355328) (hbel : Below B W0 Wc) (hB : B ≤ base)
    (h : ∀ v' w', w'.ownsRow base 9 1 v' (k + 1) (cellsS (O ++ [d])) → Below B W0 w' → wpList Tryd.prog ops Q rest (a.put o.dst v') w') : wpList Tryd.prog ops Q (o :: rest) a Wc := by
  obtain ⟨i0, hi, hz0, hz1, hz2⟩ := info_parts Tryd.infoStr
  refine wpList_append_own _ hgd s x 49 ho base 9 i0 (.string emp) 1 16 Tryd.underlying49 hi hz0 hz1 hz2 rfl (by decide) _ k _ hs hown ⟨g, 0, none⟩ 1 1 [.string d] hx rfl ?_ ?_ (by unfold maxLen; omega) (by omega) hbase ?_
  · intro j u hj
    match j, hj with
    | 0, hj => simp at hj; subst hj; simpa [Addr.add] using hcell
  · intro u hu; simp at hu; subst hu; rfl
  · intro v' w' h1 h2 _
    refine h v' w' (by simpa [cellsS] using h1) (hbel.grown h2 (by omega) ?_)
    intro q hq
    have := hown.lt q hq
    omega
def ltS (x y : ByteArray) : Bool := Op.bytesLess x.toList y.toList
def leS (x y : ByteArray) : Bool := Op.bytesLess x.toList y.toList || x.toList == y.toList
/-- a name put into a rising list -/
def putL (s : ByteArray) : List ByteArray → List ByteArray
  | [] => [s]
  | x :: l => if leS s x = true then (if ltS s x = true then s :: x :: l else x :: l) else x :: putL s l
theorem putL_length (s : ByteArray) (l : List ByteArray) : (putL s l).length ≤ l.length + 1 := by
  induction l with
  | nil => simp [putL]
  | cons x l ih =>
    rw [putL]
    split
    · split <;> simp
    · simp only [List.length_cons]; omega
theorem take_snoc (T : List ByteArray) (k : Nat) (h : k < T.length) : T.take (k + 1) = T.take k ++ [T.getD k emp] := by
  rw [List.take_succ_eq_append_getElem h, sgetD_of h]
theorem drop_cons (T : List ByteArray) (k : Nat) (h : k < T.length) : T.drop k = T.getD k emp :: T.drop (k + 1) := by
  rw [List.drop_eq_getElem_cons h, sgetD_of h]
end Go.Proofs.YtncgmnijgdfenaaDoor.Gl
/- The document's Together. -/
namespace Go.Proofs.YtncgmnijgdfenaaDoor.Gl
open Go.RowKit
set_option linter.unusedVariables false

theorem owns_mono {w : World} {base base' : Nat} {e : TypeId} {v : Value} {n : Nat} {xs : List Value} (h : w.ownsRow base e 1 v n xs) (hb : base' ≤ base) : w.ownsRow base' e 1 v n xs := by
  refine ⟨h.1, ?_⟩
  rcases h.2 with hn | ⟨g, cap, cur, rfl, hbg, rest⟩
  · exact .inl hn
  · exact .inr ⟨g, cap, cur, rfl, by omega, rest⟩
/-- the names of a list, rising, each once -/
def togL (l : List ByteArray) : List ByteArray := l.foldl (fun o s => putL s o) []
theorem tog_take (T : List ByteArray) (k : Nat) (h : k < T.length) : togL (T.take (k + 1)) = putL (T.getD k emp) (togL (T.take k)) := by
  unfold togL
  rw [take_snoc T k h, List.foldl_append]
  rfl
theorem fold_length (l O : List ByteArray) : (l.foldl (fun o s => putL s o) O).length ≤ O.length + l.length := by
  induction l generalizing O with
  | nil => simp
  | cons x l ih =>
    have h1 := ih (putL x O)
    have h2 := putL_length x O
    simp only [List.foldl_cons, List.length_cons]
    omega
theorem tog_length (l : List ByteArray) : (togL l).length ≤ l.length := by
  have := fold_length l []
  simpa [togL] using this
end Go.Proofs.YtncgmnijgdfenaaDoor.Gl
/- The document's Rises, Sorted. -/
namespace Go.Proofs.YtncgmnijgdfenaaDoor.Gl
open Go.RowKit
set_option linter.unusedVariables false

theorem wrap_nat {q : Nat} (h : q ≤ 9223372036854775807) : IntKind.i64.wrap (q : Int) = (q : Int) := by
  rw [IntKind.wrap_i64]; omega
structure Cl (B : Nat) (W : World) (p : Addr) (v : Value) where
  w : World
  cell : w.cell? p = some v
  bel : Below B W w
theorem cl_call {B : Nat} {W : World} {p : Addr} {u : Value} {f : FuncId} {args : Array Value} {v : Value} (hB : B ≤ W.heap.size) (h : ∀ w, Calls Tryd.prog f args w fun e w' => e = .returned v ∧ Below w.heap.size w w') (n : Cl B W p u) :
    Calls Tryd.prog f args n.w fun e w'' => e = .returned v ∧ ∃ m : Cl B W p u, w'' = m.w :=
  (h n.w).mono fun e w' ⟨he, hb⟩ => ⟨he, ⟨w', (hb.cell (World.block_lt_of_cell? _ _ n.cell)).trans n.cell, n.bel.trans (hb.mono (Nat.le_trans hB n.bel.size))⟩, rfl⟩
theorem wp_region_cls {P : Program} {id : Nat} {Q : Exit → Act → World → Prop} {a : Act} {w : World} {l : List Oper} (C : World → Prop) (hm : P.follows .mixedOrders = true) (hB : Region.lexB .any l.toArray = true) (hC : C w.drew)
    (h : wpQuiet P l.toArray C (fun a' => ∀ w', C w' → Q .normal a' w') l a) : (Code.region id l.toArray true).wp P Q a w :=
  wp_region_quiet hm hB hC (by simpa using h)
/-- the texts are no longer than a text may be -/
def Short (T : List ByteArray) : Prop := ∀ x ∈ T, x.size ≤ 9223372036854775807
theorem Short.get {T : List ByteArray} (h : Short T) {i : Nat} (hi : i < T.length) : (T.getD i emp).size ≤ 9223372036854775807 := by
  rw [sgetD_of hi]; exact h _ (List.getElem_mem hi)
def RiseAt (T : List ByteArray) (i : Nat) : Prop := IsName (T.getD i emp) ∧ (0 < i → ltS (T.getD (i - 1) emp) (T.getD i emp) = true)
def Rise (T : List ByteArray) : Prop := ∀ i, i < T.length → RiseAt T i
theorem name_yes (s : ByteArray) (w : World) (hs : s.size ≤ 9223372036854775807) (h : IsName s) : Calls Tryd.prog 45 #[.string s] w fun e w' => e = .returned (.bool true) ∧ Below w.heap.size w w' := rname_at s true w hs ⟨fun _ => h, fun _ => rfl⟩
theorem name_not (s : ByteArray) (w : World) (hs : s.size ≤ 9223372036854775807) (h : ¬ IsName s) : Calls Tryd.prog 45 #[.string s] w fun e w' => e = .returned (.bool false) ∧ Below w.heap.size w w' := rname_at s false w hs ⟨fun e => (by cases e), fun e => absurd e h⟩
end Go.Proofs.YtncgmnijgdfenaaDoor.Gl
/- The program's characters, Name. -/
namespace Go.Proofs.YtncgmnijgdfenaaDoor.Gl
open Go.RowKit
set_option linter.unusedVariables false

theorem iter_below (w : World) (s : ByteArray) (p : Nat) : Below w.heap.size w (w.iter s p) := (Below.refl _ _).alloc (Nat.le_refl _) _
theorem next_at (w : World) (s : ByteArray) (p r wd : Nat) (hp : p < s.size) (h1 : (rdS s p).1 = r) (h2 : (rdS s p).2.1 = wd) (ty : TypeId) :
    (Instr.next (.pointer (some ⟨w.heap.size, 0, none⟩)) true ty).run Tryd.prog (w.iter s p) = .ok (.tuple #[.bool true, .int .i64 p, .int .i32 r]) (w.iter s (p + wd)) := by
  subst h1; subst h2
  exact run_next_any w s p ty hp
theorem ok_of_re {s : ByteArray} {p : Nat} (h : reB ((rdS s p).1 : Nat) = true) : (rdS s p).2.2 = true := by
  unfold rdS at h ⊢
  dsimp only at h ⊢
  by_cases hc : (Utf8.decode s p).1 = 65533
  · rw [hc] at h; exact absurd h (by decide)
  · have : ((Utf8.decode s p).1 == 65533) = false := by simpa using hc
    rw [this]; rfl
set_option maxHeartbeats 2000000 in
theorem name_at (s : ByteArray) (b : Bool) (w : World) (hs : s.size ≤ 9223372036854775807) (hb : b = true ↔ IsName s) :
    Calls Tryd.prog 54 #[.string s] w fun e w' => e = .returned (.bool b) ∧ Below w.heap.size w w' := by
  have HB : Hid (b = true ↔ IsName s) := hb
  clear hb
  go_enter Tryd.func54, Tryd.ntmps54
  go_wp2
  go_loopw [3] (fun m wr => ∃ k : Nat, k ≤ 16 ∧ m = .int .i64 k ∧ wr = w.iter s (pos s k) ∧ Hid (Nms s k)) (fun _ wr => s.size - wr.iterPos w.heap.size)
  case atStart => exact ⟨0, by omega, rfl, rfl, fun j hj => absurd hj (by omega)⟩
  case round =>
    obtain ⟨k, hk16, rfl, rfl, hall⟩ := hrel
    obtain ⟨hg1, hg2⟩ := pos_ge s k hall.out.lt
    by_cases hlt : pos s k < s.size
    · obtain ⟨hb1, hb2, hb3⟩ := rd_bd s (pos s k) hlt
      have HS : Hid (pos s (k + 1) = pos s k + (rdS s (pos s k)).2.1) := pos_succ s k
      have HNO : Hid (¬ (reB ((rdS s (pos s k)).1 : Nat) = true ∧ (k = 0 → stB ((rdS s (pos s k)).1 : Nat) = true)) → b = false) := fun h => by
        cases b with
        | false => rfl
        | true => exact absurd (HB.out.1 rfl) (name_no hlt hall.out.lt (fun h' => h h'.2))
      have HYES : Hid (reB ((rdS s (pos s k)).1 : Nat) = true ∧ (k = 0 → stB ((rdS s (pos s k)).1 : Nat) = true) → Nms s (k + 1)) := fun h j hj => by
        rcases Nat.lt_succ_iff_lt_or_eq.1 hj with hj | rfl
        · exact hall.out j hj
        · exact ⟨hlt, ok_of_re h.1, h⟩
      have H16 : Hid (k = 16 → b = false) := fun h => by
        cases b with
        | false => rfl
        | true =>
          obtain ⟨⟨n, hn, _, h2, _⟩, _⟩ := HB.out.1 rfl
          have hkn : k + 1 ≤ n := cnt_lt hn (fun j hj => by
            rcases Nat.lt_succ_iff_lt_or_eq.1 hj with hj | rfl
            · exact hall.out.lt j hj
            · exact hlt)
          omega
      have hnx := next_at w s (pos s k) _ _ hlt rfl rfl
      generalize hp : pos s k = p at *
      clear hp
      generalize hr : (rdS s p).1 = r at *
      generalize hw : (rdS s p).2.1 = wd at *
      clear hr hw
      by_cases h16 : k = 16
      · have HE : Hid (b = false) := H16.out h16
        subst h16
        clear HNO HYES H16
        go_wp2
        go_ret
        exact ⟨retb HE.out.symm, iter_below _ _ _⟩
      · have hk16' : ((k : Int) == 16) = false := by simp; omega
        have hk17 : k + 1 ≤ 16 := by omega
        have RS : ∀ c, reB (r : Nat) = c → Hid (∀ w, Calls Tryd.prog 61 #[.int .i32 (r : Nat)] w fun e w' => e = .returned (.bool c) ∧ w = w') := fun c h w => by rw [← h]; exact rest_at r w
        have SS : ∀ c, stB (r : Nat) = c → Hid (∀ w, Calls Tryd.prog 62 #[.int .i32 (r : Nat)] w fun e w' => e = .returned (.bool c) ∧ w = w') := fun c h w => by rw [← h]; exact start_at r w
        clear h16
        cases hre : reB (r : Nat) with
        | false =>
          have HE : Hid (b = false) := HNO.out (fun h => by have := h.1; rw [hre] at this; cases this)
          have R0 := RS _ hre
          clear SS RS hre HNO HYES H16
          go_wp2_with (go_at_call 61; refine (R0.out _).mono ?_; rintro e w2 ⟨rfl, rfl⟩)
          go_ret
          exact ⟨retb HE.out.symm, iter_below _ _ _⟩
        | true =>
          have R0 := RS _ hre
          rcases Nat.eq_zero_or_pos k with hk | hk
          · subst hk
            cases hst : stB (r : Nat) with
            | false =>
              have HE : Hid (b = false) := HNO.out (fun h => by have := h.2 rfl; rw [hst] at this; cases this)
              have S0 := SS _ hst
              clear SS RS hst hre HNO HYES H16
              go_wp2_with (first
                | (go_at_call 61; refine (R0.out _).mono ?_; rintro e w2 ⟨rfl, rfl⟩)
                | (go_at_call 62; refine (S0.out _).mono ?_; rintro e w2 ⟨rfl, rfl⟩))
              go_ret
              exact ⟨retb HE.out.symm, iter_below _ _ _⟩
            | true =>
              have HY : Hid (Nms s (0 + 1)) := HYES.out ⟨hre, fun _ => hst⟩
              have S0 := SS _ hst
              clear SS RS hst hre HNO HYES H16
              go_wp2_with (first
                | (go_at_call 61; refine (R0.out _).mono ?_; rintro e w2 ⟨rfl, rfl⟩)
                | (go_at_call 62; refine (S0.out _).mono ?_; rintro e w2 ⟨rfl, rfl⟩))
              go_roundw
              case rel => exact ⟨0 + 1, by omega, by go_num, by rw [HS.out], HY⟩
              case measure => simp only [World.iterPos_iter]; omega
          · have hk0 : ((k : Int) == 0) = false := by simp; omega
            have HY : Hid (Nms s (k + 1)) := HYES.out ⟨hre, fun h => by omega⟩
            clear SS RS hre HNO HYES H16
            go_wp2_with (go_at_call 61; refine (R0.out _).mono ?_; rintro e w2 ⟨rfl, rfl⟩)
            go_roundw
            case rel => exact ⟨k + 1, by omega, by go_num, by rw [HS.out], HY⟩
            case measure => simp only [World.iterPos_iter]; omega
    · have HC : Hid (IsCnt s k) := ⟨by omega, hall.out.lt⟩
      have HP : Hid (b = true ↔ 1 ≤ k ∧ rsB s = false) := by
        show _ ↔ _
        rw [HB.out]
        constructor
        · rintro ⟨⟨n, hn, h1, h2, _⟩, h3⟩
          have := cnt_one hn HC.out
          exact ⟨by omega, h3⟩
        · rintro ⟨h1, h3⟩
          exact ⟨⟨k, HC.out, h1, hk16, hall.out⟩, h3⟩
      have hnx := fun ty => run_next_end (P := Tryd.prog) w s (pos s k) ty hlt
      generalize hp : pos s k = p at *
      clear hp
      by_cases hk : 1 ≤ k
      · have RV : ∀ c, rsB s = c → Hid (∀ w, Calls Tryd.prog 63 #[.string s] w fun e w' => e = .returned (.bool c) ∧ w = w') := fun c h w => by rw [← h]; exact reserved_at s w
        cases hrs : rsB s with
        | false =>
          have HE : Hid (b = true) := HP.out.2 ⟨hk, hrs⟩
          have R0 := RV _ hrs
          clear RV hrs
          go_wp2_with (go_at_call 63; refine (R0.out _).mono ?_; rintro e w2 ⟨rfl, rfl⟩)
          go_ret
          exact ⟨retb HE.out.symm, iter_below _ _ _⟩
        | true =>
          have HE : Hid (b = false) := by
            cases b with
            | false => rfl
            | true => have := (HP.out.1 rfl).2; rw [hrs] at this; cases this
          have R0 := RV _ hrs
          clear RV hrs
          go_wp2_with (go_at_call 63; refine (R0.out _).mono ?_; rintro e w2 ⟨rfl, rfl⟩)
          go_ret
          exact ⟨retb HE.out.symm, iter_below _ _ _⟩
      · have HE : Hid (b = false) := by
          cases b with
          | false => rfl
          | true => exact absurd (HP.out.1 rfl).1 hk
        obtain rfl : k = 0 := by omega
        clear hk
        go_wp2
        go_ret
        exact ⟨retb HE.out.symm, iter_below _ _ _⟩
end Go.Proofs.YtncgmnijgdfenaaDoor.Gl
/- The program's Good, At. -/
namespace Go.Proofs.YtncgmnijgdfenaaDoor.Gl
open Go.RowKit
set_option linter.unusedVariables false

theorem bool_of_iff {a b : Bool} (h : a = true ↔ b = true) : a = b := Bool.eq_iff_iff.2 h
theorem bcell {W w1 : World} (hb : Below W.heap.size W w1) : (∀ b o, b < W.heap.size → w1.cell? ⟨b, o, none⟩ = W.cell? ⟨b, o, none⟩) ∧ (∀ b o, b < W.heap.size → w1.frozen? ⟨b, o, none⟩ = W.frozen? ⟨b, o, none⟩) :=
  ⟨fun b o h => hb.cell (p := ⟨b, o, none⟩) h, fun b o h => hb.frozen (p := ⟨b, o, none⟩) h⟩
end Go.Proofs.YtncgmnijgdfenaaDoor.Gl
/- The law's fixed; the walks of GlyphChars, GlyphNames. -/
namespace Go.Proofs.YtncgmnijgdfenaaDoor.Gl
open Go.RowKit
set_option linter.unusedVariables false

theorem bt2 {w w1 w2 : World} (h : Below w.heap.size w w1) (k : Below w1.heap.size w1 w2) : Below w.heap.size w w2 := h.trans (k.mono h.size)
theorem bta {w w1 : World} (h : Below w.heap.size w w1) (o : Obj) : Below w.heap.size w (w1.alloc o) := h.alloc h.size o
theorem fx_cnt : IsCnt ((⟨#[97, 195, 169, 98]⟩ : ByteArray).extract 0 3) 2 := by unfold IsCnt; decide +kernel
theorem fx_yes : IsName ⟨#[206, 177, 226, 130, 129]⟩ := by
  refine ⟨⟨2, by unfold IsCnt; decide +kernel, by omega, by omega, ?_⟩, by decide +kernel⟩
  unfold Nms; decide +kernel
theorem fx_no : ¬ IsName ⟨#[97, 110, 100]⟩ := fun h => absurd h.2 (by decide +kernel)
open Classical in
theorem bool_for (p : Prop) : ∃ b : Bool, b = true ↔ p := ⟨decide p, by simp⟩
theorem good_is (s : ByteArray) : ∃ g, IsGood s g := by
  have key : ∀ n, (∃ g, IsGood s g) ∨ (n ≤ pos s n ∧ Oks s n) := by
    intro n
    induction n with
    | zero => right; exact ⟨Nat.zero_le _, fun j hj => absurd hj (by omega)⟩
    | succ n ih =>
      rcases ih with h | ⟨h1, h2⟩
      · exact .inl h
      · have hle := (pos_ge s n h2.lt).2
        by_cases hlt : pos s n < s.size
        · cases ho : (rdS s (pos s n)).2.2 with
          | true =>
            right
            refine ⟨?_, fun j hj => ?_⟩
            · have := rd_bd s (pos s n) hlt
              rw [pos_succ]; omega
            · rcases Nat.lt_succ_iff_lt_or_eq.1 hj with hj | rfl
              · exact h2 j hj
              · exact ⟨hlt, ho⟩
          | false => left; exact ⟨_, n, rfl, h2, .inr ⟨hlt, ho⟩⟩
        · left; exact ⟨_, n, rfl, h2, .inl (by omega)⟩
  rcases key (s.size + 1) with h | ⟨h1, h2⟩
  · exact h
  · have := (pos_ge s (s.size + 1) h2.lt).2
    omega
end Go.Proofs.YtncgmnijgdfenaaDoor.Gl
/- The walks of GlyphPlaces, GlyphClasses. -/
namespace Go.Proofs.YtncgmnijgdfenaaDoor.Gl
open Go.RowKit
set_option linter.unusedVariables false

theorem below_drewn {B : Nat} {w w1 : World} (h : Below B w w1) (n : Nat) : Below B w (w1.drewN n) := h.trans ⟨rfl, rfl, rfl, Nat.le_refl _, fun _ _ => rfl⟩
theorem cell_keep {W w1 : World} {x y : Value} {t : TypeId} (hb : Below (W.alloc (.cells #[x, y] t)).heap.size (W.alloc (.cells #[x, y] t)) w1) : w1.cell? ⟨W.heap.size, 0, none⟩ = some x ∧ w1.cell? ⟨W.heap.size, 1, none⟩ = some y := by
  obtain ⟨hc, _⟩ := bcell hb
  constructor
  · rw [hc _ _ (by simp)]; simp
  · rw [hc _ _ (by simp)]; simp
theorem pl_of {r : Int} (h : plB r ≠ emp) : r ∈ marks := by
  by_cases hm : r ∈ marks
  · exact hm
  · exact absurd (pl_none r (fun m h' e => hm (e ▸ h'))) h
/-- what a sign stands for is made of plain characters -/
def plainB (x : ByteArray) : Bool := x.data.all (fun c => 33 ≤ c.toNat && c.toNat < 128)
theorem plain_get {x : ByteArray} (h : plainB x = true) (i : Nat) (hi : i < x.size) : 33 ≤ x[i].toNat ∧ x[i].toNat < 128 := by
  unfold plainB at h
  rw [Array.all_eq_true] at h
  have := h i hi
  simp only [Bool.and_eq_true, decide_eq_true_eq] at this
  exact this
theorem marks_all : ∀ r ∈ marks, stB r = false ∧ reB r = false ∧ blB r = false ∧ (plainB (plB r) = true ∧ (plB r).size ≤ 3) ∧ 0 ≤ r ∧ r ≤ 1114111 := by decide +kernel
theorem bl_re {r : Int} (h : blB r = true) : reB r = false ∧ r ∉ marks ∧ stB r = false := by
  have h' := of_decide_eq_true h
  rcases h' with rfl | rfl | rfl | rfl <;> decide +kernel
theorem re_bd {r : Int} (h : reB r = true) : 0 ≤ r ∧ r ≤ 1114111 := by
  rw [re_eq, st_eq] at h
  unfold laB grB at h
  simp only [Bool.or_eq_true, decide_eq_true_eq] at h
  omega
theorem bl_bd {r : Int} (h : blB r = true) : 0 ≤ r ∧ r ≤ 1114111 := by
  have h' := of_decide_eq_true h
  omega
end Go.Proofs.YtncgmnijgdfenaaDoor.Gl
