/- What lex.Words must answer, as a statement on the call; the law's fixed and the walk of LexKinds out of it. -/
import Derived.Test.YthimmohbedaimaaDoorLyA
import Derived.Laws.StructEq
namespace Go.Proofs.YthimmohbedaimaaDoor.Gl
open Go.RowKit
set_option linter.unusedVariables false

theorem Tryd.infoU8 : (Tryd.prog.info? 5).map (fun i => (i.zero, i.size, i.bytes)) = some (some (.int .u8 0), 1, 1) := by kernel_rfl
theorem flat_get (ws : List FW) (i r : Nat) (hr : r < 5) (hi : i < ws.length) : (ws.flatMap FW.cells)[i * 5 + r]? = (ws.getD i default).cells[r]? := by
  induction ws generalizing i with
  | nil => simp at hi
  | cons x ws ih =>
    have hx : x.cells.length = 5 := rfl
    rw [List.flatMap_cons]
    cases i with
    | zero =>
      rw [Nat.zero_mul, Nat.zero_add, List.getElem?_append_left (by omega)]
      rfl
    | succ i =>
      rw [List.getElem?_append_right (by omega), hx, show (i + 1) * 5 + r - 5 = i * 5 + r by omega, ih i (by simpa using hi)]
      rfl
theorem flat_len (ws : List FW) : (ws.flatMap FW.cells).length = ws.length * 5 := by
  induction ws with
  | nil => rfl
  | cons x ws ih =>
    rw [List.flatMap_cons, List.length_append, ih, List.length_cons]
    show 5 + ws.length * 5 = _
    omega
theorem rdw_of_owns {w : World} {base : Nat} {v : Value} {n : Nat} {ws : List FW} (hn : ws.length = n) (h : w.ownsRow base 35 5 v n (ws.flatMap FW.cells)) : ∃ ro cr, v = .slice ro n cr ∧ RdW w ro n cr ws := by
  have h' := h
  obtain ⟨hl, hv⟩ := h'
  rcases hv with ⟨rfl, hz⟩ | ⟨g, cap, cur, rfl, hg, hh, hnc, hcm, hcs, hx⟩
  · subst hz
    exact ⟨none, 0, rfl, hn, Nat.le_refl _, by omega, fun _ => rfl, fun i hi => by omega⟩
  · refine ⟨some ⟨g, 0, none⟩, cap, rfl, hn, hnc, hcm, (fun h => nomatch h), (fun i hi => ⟨g, 0, rfl, (Array.getElem?_eq_some_iff.1 hh).1, ?_⟩)⟩
    have key : ∀ r, r < 5 → w.cell? ⟨g, i * 5 + r, none⟩ = (ws.getD i default).cells[r]? := fun r hr => by
      rw [h.cellAt (i * 5 + r) (by omega), flat_get ws i r hr (by omega)]
    simp only [Nat.zero_add]
    exact ⟨key 0 (by omega), key 1 (by omega), key 2 (by omega), key 3 (by omega), key 4 (by omega)⟩
abbrev fau (c b k : Nat) : Value := .agg #[.int .i64 c, .int .i64 b, .int .i64 k]
/-- what lex.Words answers -/
structure LexC : Prop where
  long : ∀ (s : ByteArray) (w : World), Sg w → 4096 < s.size → s.size ≤ 9223372036854775807 → Calls Tryd.prog 8 #[.string s] w fun e w' => ∃ v, e = .returned (.tuple #[v, fau 70 0 0]) ∧ w'.ownsRow w.heap.size 35 5 v 0 [] ∧ Below w.heap.size w w'
  good : ∀ (s : ByteArray) (a : List Wd) (w : World), Sg w → s.size ≤ 4096 → Lx s 0 a none → Calls Tryd.prog 8 #[.string s] w fun e w' => ∃ v, e = .returned (.tuple #[v, fau 0 0 0]) ∧ w'.ownsRow w.heap.size 35 5 v a.length ((a.map (full s)).flatMap FW.cells) ∧ Below w.heap.size w w'
  bad : ∀ (s : ByteArray) (a : List Wd) (c p : Nat) (w : World), Sg w → s.size ≤ 4096 → Lx s 0 a (some (c, p)) → Calls Tryd.prog 8 #[.string s] w fun e w' => ∃ v, e = .returned (.tuple #[v, fau c p (cnt (s.extract 0 p))]) ∧ w'.ownsRow w.heap.size 35 5 v 0 [] ∧ Below w.heap.size w w'
abbrev fxt : ByteArray := ⟨#[120, 49, 32, 60, 61, 32, 48, 55]⟩
def Tk.isW (t : Tk) (k : Nat) (x : ByteArray) (v q : Nat) : Bool := match t with
  | .word k' y v' q' => k' == k && y.toList == x.toList && v' == v && q' == q
  | _ => false
def Tk.isB : Tk → Bool
  | .blank => true
  | _ => false
theorem Tk.of_isW {t : Tk} {k v q : Nat} {x : ByteArray} (h : t.isW k x v q = true) : t = .word k x v q := by
  unfold Tk.isW at h
  split at h
  · simp only [Bool.and_eq_true, beq_iff_eq] at h
    obtain ⟨⟨⟨h1, h2⟩, h3⟩, h4⟩ := h
    rw [h1, toList_inj h2, h3, h4]
  · cases h
theorem Tk.of_isB {t : Tk} (h : t.isB = true) : t = .blank := by
  cases t with
  | blank => rfl
  | bad e => cases h
  | word _ _ _ _ => cases h
theorem fx_lx : Lx fxt 0 [⟨0, ⟨#[120, 49]⟩, 0, 0⟩, ⟨2, ⟨#[60, 61]⟩, 0, 3⟩, ⟨1, emp, 7, 6⟩] none :=
  .word (by decide) (Tk.of_isW (q := 2) (by decide +kernel)) (.blank (by decide) (Tk.of_isB (by decide +kernel)) (.word (by decide) (Tk.of_isW (q := 5) (by decide +kernel)) (.blank (by decide) (Tk.of_isB (by decide +kernel)) (.word (by decide) (Tk.of_isW (q := 8) (by decide +kernel)) (.done (by decide))))))
theorem fx_full : ([⟨0, ⟨#[120, 49]⟩, 0, 0⟩, ⟨2, ⟨#[60, 61]⟩, 0, 3⟩, ⟨1, emp, 7, 6⟩] : List Wd).map (full fxt) = [⟨0, ⟨#[120, 49]⟩, 0, 0, 0⟩, ⟨2, ⟨#[60, 61]⟩, 0, 3, 3⟩, ⟨1, emp, 7, 6, 6⟩] := by
  have h0 : cnt (fxt.extract 0 0) = 0 := by decide +kernel
  have h3 : cnt (fxt.extract 0 3) = 3 := by decide +kernel
  have h6 : cnt (fxt.extract 0 6) = 6 := by decide +kernel
  simp only [List.map_cons, List.map_nil, full, h0, h3, h6]
theorem fx_cells {w : World} {ao : Option Addr} {c : Nat} (h : RdW w ao 3 c [⟨0, ⟨#[120, 49]⟩, 0, 0, 0⟩, ⟨2, ⟨#[60, 61]⟩, 0, 3, 3⟩, ⟨1, emp, 7, 6, 6⟩]) : ∃ g o, ao = some ⟨g, o, none⟩ ∧ g < w.heap.size ∧ w.cell? ⟨g, o + 1, none⟩ = some (.string ⟨#[120, 49]⟩) ∧ w.cell? ⟨g, o + 5, none⟩ = some (.int .i64 2) ∧ w.cell? ⟨g, o + 6, none⟩ = some (.string ⟨#[60, 61]⟩) ∧ w.cell? ⟨g, o + 7, none⟩ = some (.int .i64 0) ∧ w.cell? ⟨g, o + 8, none⟩ = some (.int .i64 3) ∧ w.cell? ⟨g, o + 9, none⟩ = some (.int .i64 3) ∧ w.cell? ⟨g, o + 12, none⟩ = some (.int .i64 7) := by
  obtain ⟨g, o, rfl, hg, p0, p1, p2, p3, p4⟩ := h.cell 0 (by omega)
  obtain ⟨g1, o1, e1, _, q0, q1, q2, q3, q4⟩ := h.cell 1 (by omega)
  obtain ⟨g2, o2, e2, _, r0, r1, r2, r3, r4⟩ := h.cell 2 (by omega)
  simp only [Option.some.injEq, Addr.mk.injEq, and_true] at e1 e2
  obtain ⟨rfl, rfl⟩ := e1
  obtain ⟨rfl, rfl⟩ := e2
  exact ⟨g, o, rfl, hg, p1, q0, q1, q2, q3, q4, r2⟩
set_option maxHeartbeats 2000000 in
theorem lfixed_at (C : LexC) (w : World) (hS : Sg w) : Calls Tryd.prog 7 #[] w fun e w' => e = .returned (.bool true) ∧ Below w.heap.size w w' := by
  have LW : Hid (∀ w, Sg w → Calls Tryd.prog 8 #[.string fxt] w fun e w' => ∃ v, e = .returned (.tuple #[v, fau 0 0 0]) ∧ w'.ownsRow w.heap.size 35 5 v 3 (([⟨0, ⟨#[120, 49]⟩, 0, 0, 0⟩, ⟨2, ⟨#[60, 61]⟩, 0, 3, 3⟩, ⟨1, emp, 7, 6, 6⟩] : List FW).flatMap FW.cells) ∧ Below w.heap.size w w') := fun w hS => by
    have := C.good fxt _ w hS (by decide) fx_lx
    rw [fx_full] at this
    exact this
  clear C
  go_enter Tryd.func7, Tryd.ntmps7
  go_wp2_with (go_at_call 8; refine (LW.out _ hS).mono ?_; rintro e w1 ⟨v1, rfl, hO1, hB1⟩; obtain ⟨a1, c1, rfl, hR1⟩ := rdw_of_owns (n := 3) rfl hO1; obtain ⟨g, o, rfl, hg, p1, q0, q1, q2, q3, q4, r2⟩ := fx_cells hR1)
  go_ret
  exact ⟨rfl, bta hB1 _⟩
set_option maxHeartbeats 2000000 in
theorem kinds_long (C : LexC) (s : ByteArray) (w : World) (hS : Sg w) (h : 4096 < s.size) (hs : s.size ≤ 9223372036854775807) :
    Calls Tryd.prog 3 #[.string s] w fun e w' => e = .returned (.bool true) ∧ Below w.heap.size w w' := by
  have LW : Hid (∀ w, Sg w → Calls Tryd.prog 8 #[.string s] w fun e w' => ∃ v, e = .returned (.tuple #[v, fau 70 0 0]) ∧ w'.ownsRow w.heap.size 35 5 v 0 [] ∧ Below w.heap.size w w') := fun w hS => C.long s w hS h hs
  have FX : Hid (∀ w, Sg w → Calls Tryd.prog 7 #[] w fun e w' => e = .returned (.bool true) ∧ Below w.heap.size w w') := fun w hS => lfixed_at C w hS
  have h' : decide (s.size ≤ 4096) = false := decide_eq_false (by omega)
  clear C
  go_enter Tryd.func3, Tryd.ntmps3
  go_wp2_with (first
    | (go_at_call 7; refine (FX.out _ hS).mono ?_; rintro e w1 ⟨rfl, hB1⟩; have hS1 := hS.below hB1)
    | (go_at_call 8; refine (LW.out _ hS1).mono ?_; rintro e w2 ⟨v2, rfl, hO2, hB2⟩; obtain ⟨a2, c2, rfl, hR2⟩ := rdw_of_owns (n := 0) (ws := []) rfl hO2))
  go_ret
  exact ⟨rfl, bta (bt2 hB1 hB2) _⟩
theorem made_u8 (m : Nat) : ∀ x ∈ (madeCells (Value.int .u8 0).cells (m * 1)).toList, ∃ z : Nat, z < 256 ∧ x = .int .u8 z := by
  intro x hx
  have : (madeCells (Value.int .u8 0).cells (m * 1)).toList = List.replicate (m * 1) (.int .u8 0) := toList_madeCells_one _ _
  rw [this] at hx
  exact ⟨0, by omega, (List.mem_replicate.1 hx).2⟩
/-- 'string(b)' of a row of bytes: a text of as many -/
theorem conv_row {w : World} {base g m : Nat} {xs : List Value} (h : w.ownsRow base 5 1 (.slice (some ⟨g, 0, none⟩) m m) m xs) (hx : ∀ x ∈ xs, ∃ z : Nat, z < 256 ∧ x = .int .u8 z) :
    ∃ t : ByteArray, t.size = m ∧ (convert 23 9 (.slice (some ⟨g, 0, none⟩) m m)).run Tryd.prog w = .ok (.string t) w := by
  have hl := h.1
  obtain ⟨ns, hns⟩ : ∃ ns : List Int, xs = ns.map (Value.int .u8) := by
    clear hl h
    induction xs with
    | nil => exact ⟨[], rfl⟩
    | cons x xs ih =>
      obtain ⟨ns, e⟩ := ih (fun y hy => hx y (List.mem_cons_of_mem _ hy))
      obtain ⟨z, _, ez⟩ := hx x (List.mem_cons_self ..)
      exact ⟨(z : Int) :: ns, by rw [List.map_cons, e, ez]⟩
  have hload := run_loadCells_list (P := Tryd.prog) (w := w) ⟨g, 0, none⟩ xs (h.cells rfl)
  rw [hl, Nat.mul_one] at hload
  rw [run_convert_bytes_string _ 23 9 5 _ _ _ Tryd.underlying23 Tryd.underlying5 Tryd.underlying9, run_bytesToString w ⟨g, 0, none⟩ m m ns (by rw [hload, hns])]
  refine ⟨_, ?_, rfl⟩
  have key : ∀ (ns : List Int) (b : ByteArray), (ns.foldl (fun r n => r.push (UInt8.ofNat n.toNat)) b).size = b.size + ns.length := by
    intro ns
    induction ns with
    | nil => intro b; rfl
    | cons n ns ih => intro b; rw [List.foldl_cons, ih, ByteArray.size_push, List.length_cons]; omega
  rw [key]
  rw [hns, List.length_map] at hl
  show 0 + ns.length = m
  omega
set_option maxHeartbeats 2000000 in
theorem kinds_short (C : LexC) (s : ByteArray) (w : World) (hS : Sg w) (h : s.size ≤ 4096) :
    Calls Tryd.prog 3 #[.string s] w fun e w' => e = .returned (.bool true) ∧ Below w.heap.size w w' := by
  have FX : Hid (∀ w, Sg w → Calls Tryd.prog 7 #[] w fun e w' => e = .returned (.bool true) ∧ Below w.heap.size w w') := fun w hS => lfixed_at C w hS
  obtain ⟨m, hm⟩ : ∃ m : Nat, 4097 - s.size = m := ⟨_, rfl⟩
  have hm1 : (4097 : Int) - (s.size : Int) = (m : Int) := by omega
  have hm2 : m ≤ 4097 := by omega
  have hm3 : 1 ≤ m := by omega
  obtain ⟨ii, hi, hi0, hi1, hi2⟩ := info_parts Tryd.infoU8
  go_enter Tryd.func3, Tryd.ntmps3
  go_wp2_with (first
    | (go_at_call 7; refine (FX.out _ hS).mono ?_; rintro e w1 ⟨rfl, hB1⟩; have hS1 := hS.below hB1)
    | (at_make; refine wpList_make_full _ rfl _ _ 23 rfl w.heap.size 5 ii (.int .u8 0) 1 Tryd.underlying23 hi hi0 hi1 _ _ _ _ m rfl rfl (by go_num) (by go_num) (by rw [hi2]; omega) (by unfold maxLen; omega) hB1.size ?_; intro w2 hown2 hg2))
  have hB2 := hB1.grown hg2 hB1.size (fun k h => by cases h)
  have hb1 := hB1.size
  go_loopw [34] (fun i wr => ∃ (k : Nat) (xs : List Value), k ≤ m ∧ i = .int .i64 k ∧ wr.ownsRow w.heap.size 5 1 (.slice (some ⟨w1.heap.size, 0, none⟩) m m) m xs ∧ Hid (∀ x ∈ xs, ∃ z : Nat, z < 256 ∧ x = .int .u8 z) ∧ Below w.heap.size w wr) (fun i _ => m - (intOf i).toNat)
  case atStart => exact ⟨0, _, Nat.zero_le _, rfl, hown2, made_u8 m, hB2⟩
  case round =>
    obtain ⟨k, xs, hk, rfl, hO, hxs, hBr⟩ := hrel
    by_cases hlt : k < m
    · have hxl := hO.1
      have hcell : wr.cell? ⟨w1.heap.size, k, none⟩ = some (xs[k]'(by omega)) := by rw [hO.cellAt k (by omega), List.getElem?_eq_getElem]
      have hfr : wr.frozen? ⟨w1.heap.size, k, none⟩ = false := hO.frozenAt k
      have HST : Hid _ := hO.stored k (.int .u8 32)
      have HX : Hid (∀ x ∈ xs.set k (.int .u8 32), ∃ z : Nat, z < 256 ∧ x = .int .u8 z) := fun x hx => by
        rcases List.mem_or_eq_of_mem_set hx with h | rfl
        · exact hxs.out x h
        · exact ⟨32, by omega, rfl⟩
      generalize xs[k]'(by omega) = x at hcell
      go_wp2
      go_roundw
      case rel => exact ⟨k + 1, _, by omega, by go_num, HST.out.1, HX, hBr.setCell hb1 _⟩
      case measure => simp [intOf]; omega
    · obtain rfl : k = m := by omega
      obtain ⟨t, ht, hcv⟩ := conv_row hO hxs.out
      have hz : (s ++ t).size = 4097 := by rw [ByteArray.size_append, ht]; omega
      have LW : Hid (∀ w, Sg w → Calls Tryd.prog 8 #[.string (s ++ t)] w fun e w' => ∃ v, e = .returned (.tuple #[v, fau 70 0 0]) ∧ w'.ownsRow w.heap.size 35 5 v 0 [] ∧ Below w.heap.size w w') := fun w hS => C.long (s ++ t) w hS (by omega) (by omega)
      clear hz hxs hO
      go_wp2_with (go_at_call 8; refine (LW.out _ (hS.below hBr)).mono ?_; rintro e w5 ⟨v5, rfl, hO5, hB5⟩; obtain ⟨a5, c5, rfl, hR5⟩ := rdw_of_owns (n := 0) (ws := []) rfl hO5)
      go_ret
      exact ⟨rfl, bta (bt2 hBr hB5) _⟩
end Go.Proofs.YthimmohbedaimaaDoor.Gl
