/- What lex.Words must answer, as a statement on the call; the law's fixed and the walk of LexKinds out of it. -/
import Derived.Test.YtabfhdmcljdjhaaGreatDoorLyA
import Derived.Laws.StructEq
import Derived.Test.YtabfhdmcljdjhaaGreatDoorLyF
import Derived.Lib.OthersKept
namespace Go.Proofs.YtabfhdmcljdjhaaGreatDoor.Gl
open Go.RowKit
set_option linter.unusedVariables false

theorem Tryz.infoU8 : (Tryz.prog.info? 5).map (fun i => (i.zero, i.size, i.bytes)) = some (some (.int .u8 0), 1, 1) := by kernel_rfl
theorem flat_get (ws : List FW) (i r : Nat) (hr : r < 5) (hi : i < ws.length) : (ws.flatMap FW.cells)[i * 5 + r]? = (ws.getD i default).cells[r]? := by
  induction ws generalizing i with
  | nil => simp at hi
  | cons x ws ih =>
    have hx : x.cells.length = 5 := rfl
    rw [List.flatMap_cons]
    cases i with
    | zero =>
      rw [Nat.zero_mul, Nat.zero_add, List.getElem?_append_left (by omega)]
      rfl
    | succ i =>
      rw [List.getElem?_append_right (by omega), hx, show (i + 1) * 5 + r - 5 = i * 5 + r by omega, ih i (by simpa using hi)]
      rfl
theorem flat_len (ws : List FW) : (ws.flatMap FW.cells).length = ws.length * 5 := by
  induction ws with
  | nil => rfl
  | cons x ws ih =>
    rw [List.flatMap_cons, List.length_append, ih, List.length_cons]
    show 5 + ws.length * 5 = _
    omega
theorem rdw_of_owns {w : World} {base : Nat} {v : Value} {n : Nat} {ws : List FW} (hn : ws.length = n) (h : w.ownsRow base 87 5 v n (ws.flatMap FW.cells)) : ∃ ro cr, v = .slice ro n cr ∧ RdW w ro n cr ws := by
  have h' := h
  obtain ⟨hl, hv⟩ := h'
  rcases hv with ⟨rfl, hz⟩ | ⟨g, cap, cur, rfl, hg, hh, hnc, hcm, hcs, hx⟩
  · subst hz
    exact ⟨none, 0, rfl, hn, Nat.le_refl _, by omega, fun _ => rfl, fun i hi => by omega⟩
  · refine ⟨some ⟨g, 0, none⟩, cap, rfl, hn, hnc, hcm, (fun h => nomatch h), (fun i hi => ⟨g, 0, rfl, (Array.getElem?_eq_some_iff.1 hh).1, ?_⟩)⟩
    have key : ∀ r, r < 5 → w.cell? ⟨g, i * 5 + r, none⟩ = (ws.getD i default).cells[r]? := fun r hr => by
      rw [h.cellAt (i * 5 + r) (by omega), flat_get ws i r hr (by omega)]
    simp only [Nat.zero_add]
    exact ⟨key 0 (by omega), key 1 (by omega), key 2 (by omega), key 3 (by omega), key 4 (by omega)⟩
abbrev fau (c b k : Nat) : Value := .agg #[.int .i64 c, .int .i64 b, .int .i64 k]
/-- what lex.Words answers -/
structure LexC : Prop where
  long : ∀ (s : ByteArray) (w : World), Sg w → 4096 < s.size → s.size ≤ 9223372036854775807 → Calls Tryz.prog 27 #[.string s] w fun e w' => ∃ v, e = .returned (.tuple #[v, fau 70 0 0]) ∧ w'.ownsRow w.heap.size 87 5 v 0 [] ∧ Below w.heap.size w w'
  good : ∀ (s : ByteArray) (a : List Wd) (w : World), Sg w → s.size ≤ 4096 → Lx s 0 a none → Calls Tryz.prog 27 #[.string s] w fun e w' => ∃ v, e = .returned (.tuple #[v, fau 0 0 0]) ∧ w'.ownsRow w.heap.size 87 5 v a.length ((a.map (full s)).flatMap FW.cells) ∧ Below w.heap.size w w'
  bad : ∀ (s : ByteArray) (a : List Wd) (c p : Nat) (w : World), Sg w → s.size ≤ 4096 → Lx s 0 a (some (c, p)) → Calls Tryz.prog 27 #[.string s] w fun e w' => ∃ v, e = .returned (.tuple #[v, fau c p (cnt (s.extract 0 p))]) ∧ w'.ownsRow w.heap.size 87 5 v 0 [] ∧ Below w.heap.size w w'
abbrev fxt : ByteArray := ⟨#[120, 49, 32, 60, 61, 32, 48, 55]⟩
def Tk.isW (t : Tk) (k : Nat) (x : ByteArray) (v q : Nat) : Bool := match t with
  | .word k' y v' q' => k' == k && y.toList == x.toList && v' == v && q' == q
  | _ => false
def Tk.isB : Tk → Bool
  | .blank => true
  | _ => false
theorem Tk.of_isW {t : Tk} {k v q : Nat} {x : ByteArray} (h : t.isW k x v q = true) : t = .word k x v q := by
  unfold Tk.isW at h
  split at h
  · simp only [Bool.and_eq_true, beq_iff_eq] at h
    obtain ⟨⟨⟨h1, h2⟩, h3⟩, h4⟩ := h
    rw [h1, toList_inj h2, h3, h4]
  · cases h
theorem Tk.of_isB {t : Tk} (h : t.isB = true) : t = .blank := by
  cases t with
  | blank => rfl
  | bad e => cases h
  | word _ _ _ _ => cases h
theorem fx_lx : Lx fxt 0 [⟨0, ⟨#[120, 49]⟩, 0, 0⟩, ⟨2, ⟨#[60, 61]⟩, 0, 3⟩, ⟨1, emp, 7, 6⟩] none :=
  .word (by decide) (Tk.of_isW (q := 2) (by decide +kernel)) (.blank (by decide) (Tk.of_isB (by decide +kernel)) (.word (by decide) (Tk.of_isW (q := 5) (by decide +kernel)) (.blank (by decide) (Tk.of_isB (by decide +kernel)) (.word (by decide) (Tk.of_isW (q := 8) (by decide +kernel)) (.done (by decide))))))
theorem fx_full : ([⟨0, ⟨#[120, 49]⟩, 0, 0⟩, ⟨2, ⟨#[60, 61]⟩, 0, 3⟩, ⟨1, emp, 7, 6⟩] : List Wd).map (full fxt) = [⟨0, ⟨#[120, 49]⟩, 0, 0, 0⟩, ⟨2, ⟨#[60, 61]⟩, 0, 3, 3⟩, ⟨1, emp, 7, 6, 6⟩] := by
  have h0 : cnt (fxt.extract 0 0) = 0 := by decide +kernel
  have h3 : cnt (fxt.extract 0 3) = 3 := by decide +kernel
  have h6 : cnt (fxt.extract 0 6) = 6 := by decide +kernel
  simp only [List.map_cons, List.map_nil, full, h0, h3, h6]
theorem fx_cells {w : World} {ao : Option Addr} {c : Nat} (h : RdW w ao 3 c [⟨0, ⟨#[120, 49]⟩, 0, 0, 0⟩, ⟨2, ⟨#[60, 61]⟩, 0, 3, 3⟩, ⟨1, emp, 7, 6, 6⟩]) : ∃ g o, ao = some ⟨g, o, none⟩ ∧ g < w.heap.size ∧ w.cell? ⟨g, o + 1, none⟩ = some (.string ⟨#[120, 49]⟩) ∧ w.cell? ⟨g, o + 5, none⟩ = some (.int .i64 2) ∧ w.cell? ⟨g, o + 6, none⟩ = some (.string ⟨#[60, 61]⟩) ∧ w.cell? ⟨g, o + 7, none⟩ = some (.int .i64 0) ∧ w.cell? ⟨g, o + 8, none⟩ = some (.int .i64 3) ∧ w.cell? ⟨g, o + 9, none⟩ = some (.int .i64 3) ∧ w.cell? ⟨g, o + 12, none⟩ = some (.int .i64 7) := by
  obtain ⟨g, o, rfl, hg, p0, p1, p2, p3, p4⟩ := h.cell 0 (by omega)
  obtain ⟨g1, o1, e1, _, q0, q1, q2, q3, q4⟩ := h.cell 1 (by omega)
  obtain ⟨g2, o2, e2, _, r0, r1, r2, r3, r4⟩ := h.cell 2 (by omega)
  simp only [Option.some.injEq, Addr.mk.injEq, and_true] at e1 e2
  obtain ⟨rfl, rfl⟩ := e1
  obtain ⟨rfl, rfl⟩ := e2
  exact ⟨g, o, rfl, hg, p1, q0, q1, q2, q3, q4, r2⟩
theorem made_u8 (m : Nat) : ∀ x ∈ (madeCells (Value.int .u8 0).cells (m * 1)).toList, ∃ z : Nat, z < 256 ∧ x = .int .u8 z := by
  intro x hx
  have : (madeCells (Value.int .u8 0).cells (m * 1)).toList = List.replicate (m * 1) (.int .u8 0) := toList_madeCells_one _ _
  rw [this] at hx
  exact ⟨0, by omega, (List.mem_replicate.1 hx).2⟩
/-- 'string(b)' of a row of bytes: a text of as many -/
theorem conv_row {w : World} {base g m : Nat} {xs : List Value} (h : w.ownsRow base 5 1 (.slice (some ⟨g, 0, none⟩) m m) m xs) (hx : ∀ x ∈ xs, ∃ z : Nat, z < 256 ∧ x = .int .u8 z) :
    ∃ t : ByteArray, t.size = m ∧ (convert 140 9 (.slice (some ⟨g, 0, none⟩) m m)).run Tryz.prog w = .ok (.string t) w := by
  have hl := h.1
  obtain ⟨ns, hns⟩ : ∃ ns : List Int, xs = ns.map (Value.int .u8) := by
    clear hl h
    induction xs with
    | nil => exact ⟨[], rfl⟩
    | cons x xs ih =>
      obtain ⟨ns, e⟩ := ih (fun y hy => hx y (List.mem_cons_of_mem _ hy))
      obtain ⟨z, _, ez⟩ := hx x (List.mem_cons_self ..)
      exact ⟨(z : Int) :: ns, by rw [List.map_cons, e, ez]⟩
  have hload := run_loadCells_list (P := Tryz.prog) (w := w) ⟨g, 0, none⟩ xs (h.cells rfl)
  rw [hl, Nat.mul_one] at hload
  rw [run_convert_bytes_string _ 140 9 5 _ _ _ Tryz.underlying140 Tryz.underlying5 Tryz.underlying9, run_bytesToString w ⟨g, 0, none⟩ m m ns (by rw [hload, hns])]
  refine ⟨_, ?_, rfl⟩
  have key : ∀ (ns : List Int) (b : ByteArray), (ns.foldl (fun r n => r.push (UInt8.ofNat n.toNat)) b).size = b.size + ns.length := by
    intro ns
    induction ns with
    | nil => intro b; rfl
    | cons n ns ih => intro b; rw [List.foldl_cons, ih, ByteArray.size_push, List.length_cons]; omega
  rw [key]
  rw [hns, List.length_map] at hl
  show 0 + ns.length = m
  omega
end Go.Proofs.YtabfhdmcljdjhaaGreatDoor.Gl
/- Words: the walk. -/
namespace Go.Proofs.YtabfhdmcljdjhaaGreatDoor.Gl
open Go.RowKit
set_option linter.unusedVariables false

def Ans (s : ByteArray) (a : List Wd) (f : Option (Nat × Nat)) (c p k : Nat) (ws : List FW) : Prop :=
  (f = none ∧ c = 0 ∧ p = 0 ∧ k = 0 ∧ ws = a.map (full s)) ∨ (f = some (c, p) ∧ k = cnt (s.extract 0 p) ∧ ws = [])
theorem owns_turn {w w' : World} {base base' : Nat} {e : TypeId} {size : Nat} {v : Value} {n : Nat} {xs : List Value} (h : w.ownsRow base e size v n xs) (hb : base' ≤ base) (hh : ∀ g, base ≤ g → w'.heap[g]? = w.heap[g]?) : w'.ownsRow base' e size v n xs := by
  obtain ⟨h1, h2⟩ := h
  refine ⟨h1, ?_⟩
  rcases h2 with h2 | ⟨g, cap, cur, a, b, c, d⟩
  · exact .inl h2
  · exact .inr ⟨g, cap, cur, a, by omega, by rw [hh g b]; exact c, d⟩
theorem res_of {w : World} {b : Nat} {x y z : Value} {t : TypeId} (h : w.heap[b]? = some (.cells #[x, y, z] t (0, 0))) :
    w.cell? ⟨b, 0, none⟩ = some x ∧ w.cell? ⟨b, 1, none⟩ = some y ∧ w.cell? ⟨b, 2, none⟩ = some z ∧ w.frozen? ⟨b, 0, none⟩ = false ∧ w.frozen? ⟨b, 1, none⟩ = false ∧ w.frozen? ⟨b, 2, none⟩ = false := by
  simp [World.cell?, World.frozen?, h]
theorem res_al {w : World} {b : Nat} {x y z : Value} {t : TypeId} (h : w.heap[b]? = some (.cells #[x, y, z] t (0, 0))) :
    (∀ ob, (w.alloc ob).cell? ⟨b, 0, none⟩ = some x) ∧ (∀ ob, (w.alloc ob).cell? ⟨b, 1, none⟩ = some y) ∧ (∀ ob, (w.alloc ob).cell? ⟨b, 2, none⟩ = some z) ∧ (∀ ob, (w.alloc ob).frozen? ⟨b, 0, none⟩ = false) ∧ (∀ ob, (w.alloc ob).frozen? ⟨b, 1, none⟩ = false) ∧ ∀ ob, (w.alloc ob).frozen? ⟨b, 2, none⟩ = false := by
  have hl : b < w.heap.size := (Array.getElem?_eq_some_iff.1 h).1
  have key : ∀ ob, (w.alloc ob).heap[b]? = some (.cells #[x, y, z] t (0, 0)) := fun ob => (heap_alloc_old _ _ hl).trans h
  exact ⟨fun ob => (res_of (key ob)).1, fun ob => (res_of (key ob)).2.1, fun ob => (res_of (key ob)).2.2.1, fun ob => (res_of (key ob)).2.2.2.1, fun ob => (res_of (key ob)).2.2.2.2.1, fun ob => (res_of (key ob)).2.2.2.2.2⟩
theorem owns_nil (w : World) (base : Nat) (e : TypeId) (size : Nat) : w.ownsRow base e size (.slice none 0 0) 0 [] := ⟨by simp, .inl ⟨rfl, rfl⟩⟩
theorem words_long (s : ByteArray) (w : World) (hs : 4096 < s.size) (h63 : s.size ≤ 9223372036854775807) :
    Calls Tryz.prog 27 #[.string s] w fun e w' => ∃ v, e = .returned (.tuple #[v, fau 70 0 0]) ∧ w'.ownsRow w.heap.size 87 5 v 0 [] ∧ Below w.heap.size w w' := by
  have h4 : (4096 : Int) < (s.size : Int) := by omega
  go_enter Tryz.func27, Tryz.ntmps27
  go_wp2
  refine bodyPost_ret (v := .tuple #[.slice none 0 0, fau 70 0 0]) (by simp [results, Tryz.results27, go_sem]) rfl ⟨_, rfl, owns_nil _ _ _ _, ?_⟩
  repeat refine Below.setCell ?_ (by simp) _
  exact bta (Below.refl _ _) _
theorem cell_new5 (W : World) (kd v p k : Nat) (tx : ByteArray) (t : TypeId) (b : Nat) (hb : W.heap.size = b) (i : Nat) (hi : i < 5) : (W.alloc (.cells #[.int .i64 kd, .string tx, .int .i64 v, .int .i64 p, .int .i64 k] t)).cell? ⟨b, i, none⟩ = (⟨kd, tx, v, p, k⟩ : FW).cells[i]? := by
  subst hb
  match i, hi with
  | 0, _ => simp [FW.cells]
  | 1, _ => simp [FW.cells]
  | 2, _ => simp [FW.cells]
  | 3, _ => simp [FW.cells]
  | 4, _ => simp [FW.cells]
theorem tok_code {s : ByteArray} {p c : Nat} (h : tok s p = .bad c) : c ≠ 0 := by
  rcases tok_cases s p with ⟨_, e⟩ | ⟨hbl, ⟨_, e⟩ | ⟨hok, ⟨_, ⟨_, e⟩ | ⟨_, _, e⟩ | ⟨_, _, e⟩⟩ | ⟨_, _, ⟨_, e⟩ | ⟨_, e⟩⟩ | ⟨_, _, _, e⟩ | ⟨_, _, _, ⟨_, e⟩ | ⟨hne, e⟩⟩⟩⟩
  all_goals rw [h] at e
  all_goals cases e
  all_goals decide
theorem own_keep {w w' : World} {base : Nat} {e : TypeId} {size : Nat} {v : Value} {n : Nat} {xs : List Value} (h : w.ownsRow base e size v n xs) (hb : Below w.heap.size w w') : w'.ownsRow base e size v n xs := by
  obtain ⟨h1, h2⟩ := h
  refine ⟨h1, ?_⟩
  rcases h2 with h2 | ⟨g, cap, cur, a, b, c, d⟩
  · exact .inl h2
  · exact .inr ⟨g, cap, cur, a, b, by rw [hb.block g (Array.getElem?_eq_some_iff.1 c).1]; exact c, d⟩
set_option maxHeartbeats 600000 in
theorem words_at (s : ByteArray) (a : List Wd) (f : Option (Nat × Nat)) (w : World) (hS : Sg w) (hs : s.size ≤ 4096) (h : Lx s 0 a f) :
    Calls Tryz.prog 27 #[.string s] w fun e w' => ∃ (v : Value) (c p k : Nat) (ws : List FW), e = .returned (.tuple #[v, fau c p k]) ∧ Ans s a f c p k ws ∧ w'.ownsRow w.heap.size 87 5 v ws.length (ws.flatMap FW.cells) ∧ Below w.heap.size w w' := by
  obtain ⟨g, hg⟩ := good_is s
  have GD : Hid (∀ w, Calls Tryz.prog 50 #[.string s] w fun e w' => e = .returned (.int .i64 g) ∧ Below w.heap.size w w') := fun w => good_at s g w (by omega) hg
  have HG : Hid (IsGood s g) := hg
  have HL : Hid (a.length ≤ 4096) := Nat.le_trans h.len hs
  have BL : Hid (∀ (r : Nat) w, Calls Tryz.prog 51 #[.int .i32 r] w fun e w' => e = .returned (.bool (blB (r : Nat))) ∧ w = w') := fun r w => blank_at _ w
  have ST0 : Hid (Stand s a f 0 0 0 []) := Stand.zero h
  have h4 : decide (4096 < s.size) = false := decide_eq_false (by omega)
  clear hg h
  go_enter Tryz.func27, Tryz.ntmps27
  go_wp2_with (go_at_call 50; refine (GD.out _).mono ?_; rintro e w1 ⟨rfl, hB1⟩)
  have hres0 : w1.heap[w.heap.size]? = some (.cells #[.int .i64 0, .int .i64 0, .int .i64 0] 31 (0, 0)) := by
    rw [hB1.block _ (by simp)]; exact heap_alloc_new _ _
  have hlt1 : w.heap.size < w1.heap.size := by have := hB1.size; simp at this; omega
  have hb1 : Below w.heap.size w w1 := ba2 hB1
  go_loopw [4, 6, 7] (fun ws ch en wr => ∃ (k p e : Nat) (c : Int) (A : List Wd), wr.ownsRow (w1.heap.size + 1) 87 5 ws A.length ((A.map (full s)).flatMap FW.cells) ∧ ch = .int .i64 c ∧ c + 1 = (k : Int) ∧ en = .int .i64 e ∧ wr.heap[w1.heap.size]? = some (.stringIter s p) ∧ wr.heap[w.heap.size]? = some (.cells #[.int .i64 0, .int .i64 0, .int .i64 0] 31 (0, 0)) ∧ Below w.heap.size w wr ∧ Hid (Stand s a f k p e A)) (fun _ _ _ wr => s.size - wr.iterPos w1.heap.size)
  case atStart => exact ⟨0, 0, 0, -1, [], owns_nil _ _ _ _, rfl, by omega, rfl, heap_alloc_new _ _, (heap_alloc_old _ _ hlt1).trans hres0, bta hb1 _, ST0⟩
  case round =>
    obtain ⟨k, p, e, c, A, hO, rfl, hck, rfl, hit, hres, hBr, HST⟩ := hrel
    have hle := HST.out.le
    by_cases hlt : p < s.size
    · obtain ⟨hb1, hb2, hb3⟩ := rd_bd s p hlt
      have hnx : ∀ ty, (Instr.next (.pointer (some ⟨w1.heap.size, 0, none⟩)) true ty).run Tryz.prog wr = .ok (.tuple #[.bool true, .int .i64 p, .int .i32 ((rdS s p).1 : Nat)]) (wr.iterAt w1.heap.size s (p + (rdS s p).2.1)) := fun ty => Lib.run_next_any_at (P := Tryz.prog) wr w1.heap.size s p ty hit hlt
      have hO2 := ownsRow_iterAt hO (k := w1.heap.size) (by omega) s (p + (rdS s p).2.1)
      have hit2 := Lib.iterAt_heap wr w1.heap.size s p (p + (rdS s p).2.1) hit
      have hres2 : (wr.iterAt w1.heap.size s (p + (rdS s p).2.1)).heap[w.heap.size]? = some (.cells #[.int .i64 0, .int .i64 0, .int .i64 0] 31 (0, 0)) := by
        rw [Lib.iterAt_other _ _ _ _ _ (by omega)]; exact hres
      have hB2 := Lib.below_iterAt hBr (k := w1.heap.size) (by omega) s (p + (rdS s p).2.1)
      have hm1 : wr.iterPos w1.heap.size = p := iterPos_of hit
      have hk4 : k ≤ 4096 := by omega
      have hpl : p < p + (rdS s p).2.1 := by omega
      by_cases he : p < e
      · have HN : Hid (Stand s a f (k + 1) (p + (rdS s p).2.1) e A) := HST.out.skip hlt he
        generalize wr.iterAt w1.heap.size s (p + (rdS s p).2.1) = W2 at hnx hO2 hit2 hres2 hB2
        generalize (rdS s p).1 = r at hnx
        generalize p + (rdS s p).2.1 = p2 at *
        clear HG HL BL ST0 HST GD hO hit hres hBr
        go_wp2
        go_roundw
        case rel => exact ⟨k + 1, p2, e, k, A, hO2, rfl, by omega, rfl, hit2, hres2, hB2, HN⟩
        case measure => rw [iterPos_of hit2, hm1]; omega
      · have he' : decide (p < e) = false := decide_eq_false he
        cases hbl : blB ((rdS s p).1 : Nat) with
        | true =>
          have HN : Hid (Stand s a f (k + 1) (p + (rdS s p).2.1) e A) := HST.out.blank hlt (by omega) hbl
          have B0 : Hid (∀ w, Calls Tryz.prog 51 #[.int .i32 ((rdS s p).1 : Nat)] w fun e w' => e = .returned (.bool true) ∧ w = w') := fun w => by rw [← hbl]; exact BL.out _ w
          generalize wr.iterAt w1.heap.size s (p + (rdS s p).2.1) = W2 at hnx hO2 hit2 hres2 hB2
          generalize p + (rdS s p).2.1 = p2 at *
          clear hbl
          generalize (rdS s p).1 = r at hnx B0
          clear HG HL BL ST0 HST GD hO hit hres hBr
          go_wp2_with (go_at_call 51; refine (B0.out _).mono ?_; rintro e w2 ⟨rfl, rfl⟩)
          go_roundw
          case rel => exact ⟨k + 1, p2, e, k, A, hO2, rfl, by omega, rfl, hit2, hres2, hB2, HN⟩
          case measure => rw [iterPos_of hit2, hm1]; omega
        | false =>
          have B0 : Hid (∀ w, Calls Tryz.prog 51 #[.int .i32 ((rdS s p).1 : Nat)] w fun e w' => e = .returned (.bool false) ∧ w = w') := fun w => by rw [← hbl]; exact BL.out _ w
          cases hok : (rdS s p).2.2 with
          | false =>
            have hpg : p = g := by
              have := HST.out.at_
              exact good_one ⟨k, this, HST.out.oks, .inr ⟨hlt, hok⟩⟩ HG.out
            have ht : tok s p = .bad 50 := by unfold tok; rw [hbl, if_neg (by decide), if_pos hok]
            have HA : Hid (Ans s a f 50 p k []) := .inr ⟨HST.out.bad hlt (by omega) ht, HST.out.cnt.symm, rfl⟩
            generalize wr.iterAt w1.heap.size s (p + (rdS s p).2.1) = W2 at hnx hO2 hit2 hres2 hB2
            clear ht hbl hok
            generalize p + (rdS s p).2.1 = p2 at *
            generalize (rdS s p).1 = r at hnx B0
            subst hpg
            clear HG HL BL ST0 HST GD hO hit hres hBr
            obtain ⟨c0, c1, c2, f0, f1, f2⟩ := res_al hres2
            go_wp2_with (go_at_call 51; refine (B0.out _).mono ?_; rintro e w2 ⟨rfl, rfl⟩)
            go_region
            go_wp2
            refine bodyPost_ret (v := .tuple #[.slice none 0 0, fau 50 p k]) (by simp [results, Tryz.results27, go_sem, c0, c1, c2]) rfl ⟨_, 50, p, k, [], rfl, HA.out, owns_nil _ _ _ _, ?_⟩
            exact ((((bta hB2 _).setCell (Nat.le_refl _) _).setCell (Nat.le_refl _) _).setCell (Nat.le_refl _) _).drew
          | true =>
            have hne : ((p : Int) == (g : Int)) = false := by
              have hg' : p ≠ g := fun e => by
                obtain ⟨_, _, _, hh⟩ := HG.out
                rcases hh with hh | ⟨_, hh⟩
                · omega
                · rw [← e, hok] at hh; cases hh
              simp; omega
            obtain ⟨htk, hrd⟩ := tok_end s p hlt
            have hz := size_win s p s.size (Nat.le_refl _)
            have hS2 := (hS.below hB2).alloc
            have hlk : w1.heap.size < (wr.iterAt w1.heap.size s (p + (rdS s p).2.1)).heap.size := (Array.getElem?_eq_some_iff.1 hit2).1
            have hlw : w.heap.size < (wr.iterAt w1.heap.size s (p + (rdS s p).2.1)).heap.size := (Array.getElem?_eq_some_iff.1 hres2).1
            cases ht : tok (s.extract p s.size) 0 with
            | blank => 
              rw [ht] at htk
              have := (blank_bd hlt htk).2
              rw [hbl] at this; cases this
            | bad cd =>
              rw [ht] at htk
              have HA : Hid (Ans s a f cd p k []) := .inr ⟨HST.out.bad hlt (by omega) htk, HST.out.cnt.symm, rfl⟩
              have FW0 : Hid (∀ w, Sg w → Calls Tryz.prog 52 #[.string (s.extract p s.size), .int .i32 ((rdS s p).1 : Nat)] w fun e w' => ∃ z : Nat, e = .returned (.tuple #[wordV 0 emp 0 0 0, .int .i64 z, .int .i64 cd]) ∧ Below w.heap.size w w') := fun w hS => by
                have := fw_bad (s.extract p s.size) w hS (by omega) (by omega) (by rw [hrd]; exact hok) ht
                rwa [hrd] at this
              have hcd : ((cd : Int) == 0) = false := by
                have := tok_code htk
                simp; omega
              generalize wr.iterAt w1.heap.size s (p + (rdS s p).2.1) = W2 at *
              clear ht hbl hok htk hrd
              generalize p + (rdS s p).2.1 = p2 at *
              generalize (rdS s p).1 = r at hnx B0 FW0
              clear HG HL BL ST0 HST GD hO hit hres hBr
              go_wp2_with (first
                | (go_at_call 51; refine (B0.out _).mono ?_; rintro e w2 ⟨rfl, rfl⟩)
                | (go_at_call 52; refine (FW0.out _ (hS2 _)).mono ?_; rintro e w3 ⟨z, rfl, hB3⟩; obtain ⟨d0, d1, d2, d3⟩ := res_keep hB3; have hres3 := (hB3.block _ (by simp; omega)).trans ((heap_alloc_old _ _ hlw).trans hres2); obtain ⟨c0, c1, c2, f0, f1, f2⟩ := res_al hres3))
              go_region
              go_wp2
              refine bodyPost_ret (v := .tuple #[.slice none 0 0, fau cd p k]) (by simp [results, Tryz.results27, go_sem, c0, c1, c2]) rfl ⟨_, cd, p, k, [], rfl, HA.out, owns_nil _ _ _ _, ?_⟩
              exact ((((bta (bt2 hB2 (ba2 hB3)) _).setCell (Nat.le_refl _) _).setCell (Nat.le_refl _) _).setCell (Nat.le_refl _) _).drew
            | word kd tx v q =>
              rw [ht] at htk
              have HN : Hid (Stand s a f (k + 1) (p + (rdS s p).2.1) (p + q) (A ++ [⟨kd, tx, v, p⟩])) := HST.out.word hlt (by omega) htk
              have HF : Hid (A.map (full s) ++ [(⟨kd, tx, v, p, k⟩ : FW)] = (A ++ [(⟨kd, tx, v, p⟩ : Wd)]).map (full s)) := by
                show _ = _
                rw [List.map_append, List.map_cons, List.map_nil, full, HST.out.cnt]
              have hAl : A.length ≤ 4096 := Nat.le_trans HST.out.len HL.out
              have hq := tok_to hlt htk
              have FW0 : Hid (∀ w, Sg w → Calls Tryz.prog 52 #[.string (s.extract p s.size), .int .i32 ((rdS s p).1 : Nat)] w fun e w' => e = .returned (.tuple #[wordV kd tx v 0 0, .int .i64 q, .int .i64 0]) ∧ Below w.heap.size w w') := fun w hS => by
                have := fw_word (s.extract p s.size) w hS (by omega) (by omega) ht
                rwa [hrd] at this
              generalize wr.iterAt w1.heap.size s (p + (rdS s p).2.1) = W2 at *
              clear ht hbl hok htk hrd
              generalize p + (rdS s p).2.1 = p2 at *
              generalize (rdS s p).1 = r at hnx B0 FW0
              clear HG HL BL ST0 HST GD hO hit hres hBr
              go_wp2_with (first
                | (go_at_call 51; refine (B0.out _).mono ?_; rintro e w2 ⟨rfl, rfl⟩)
                | (go_at_call 52; refine (FW0.out _ (hS2 _)).mono ?_; rintro e w3 ⟨rfl, hB3⟩; obtain ⟨d0, d1, d2, d3⟩ := res_keep hB3; have hb3 := ba2 hB3)
                | (at_builtin; refine wp_pushW _ (w1.heap.size + 1) rfl (.tmp 59) (.tmp 61) rfl _ A.length (A.map (full s)) rfl _ ⟨kd, tx, v, p, k⟩ rfl (own_keep hO2 (bta (bta hb3 _) _)) (fun i hi => cell_new5 _ kd v p k tx _ _ (by simp) i hi) (by have := hb3.size; simp; omega) hAl ?_; intro v' w4 hO4 hB4))
              go_roundw
              case rel =>
                rw [HF.out] at hO4
                have hbb := bta (bta hb3 (.cells #[.int .i64 kd, .string tx, .int .i64 v, .int .i64 p, .int .i64 k] 87)) (.cells #[.int .i64 kd, .string tx, .int .i64 v, .int .i64 p, .int .i64 k] 87)
                refine ⟨k + 1, p2, p + q, k, A ++ [⟨kd, tx, v, p⟩], ?_, rfl, by omega, by go_num, ?_, ?_, ?_, HN⟩
                · rw [List.length_append]; exact hO4
                · exact (hB4.block _ (by omega)).trans ((hbb.block _ hlk).trans hit2)
                · exact (hB4.block _ (by omega)).trans ((hbb.block _ hlw).trans hres2)
                · exact (bt2 hB2 hbb).trans (hB4.mono (by omega))
              case measure => rw [iterPos_of ((hB4.block _ (by omega)).trans (((bta (bta hb3 _) _).block _ hlk).trans hit2)), hm1]; omega
    · have hnx := fun ty => Lib.run_next_end_at (P := Tryz.prog) wr w1.heap.size s p ty hit hlt
      obtain ⟨hf, hA⟩ := HST.out.fin hlt
      subst hA
      have HA : Hid (Ans s A f 0 0 0 (A.map (full s))) := .inl ⟨hf, rfl, rfl, rfl, rfl⟩
      obtain ⟨c0, c1, c2, f0, f1, f2⟩ := res_of hres
      clear hf HG HL BL ST0 HST GD
      go_wp2
      refine bodyPost_ret (v := .tuple #[_, fau 0 0 0]) (by simp [results, Tryz.results27, go_sem, c0, c1, c2]; rfl) rfl ⟨_, 0, 0, 0, _, rfl, HA.out, ?_, ?_⟩
      · rw [List.length_map]
        refine owns_turn hO (by omega) (fun g hg => ?_)
        rw [Below.heap_setCell _ _ _ _ (by simp; omega), Below.heap_setCell _ _ _ _ (by simp; omega), Below.heap_setCell _ _ _ _ (by simp; omega)]
      · repeat refine Below.setCell ?_ (by simp) _
        exact hBr
end Go.Proofs.YtabfhdmcljdjhaaGreatDoor.Gl
/- What lex.Words answers. -/
namespace Go.Proofs.YtabfhdmcljdjhaaGreatDoor.Gl
open Go.RowKit

theorem lexC : LexC where
  long := fun s w _ h hs => words_long s w h hs
  good := fun s a w hS hs h => (words_at s a none w hS hs h).mono fun e w' ⟨v, c, p, k, ws, he, ha, ho, hb⟩ => by
    rcases ha with ⟨_, rfl, rfl, rfl, rfl⟩ | ⟨h, _⟩
    · rw [List.length_map] at ho
      exact ⟨v, he, ho, hb⟩
    · cases h
  bad := fun s a c p w hS hs h => (words_at s a (some (c, p)) w hS hs h).mono fun e w' ⟨v, c', p', k, ws, he, ha, ho, hb⟩ => by
    rcases ha with ⟨h, _⟩ | ⟨h, rfl, rfl⟩
    · cases h
    · cases h
      exact ⟨v, he, ho, hb⟩
end Go.Proofs.YtabfhdmcljdjhaaGreatDoor.Gl
