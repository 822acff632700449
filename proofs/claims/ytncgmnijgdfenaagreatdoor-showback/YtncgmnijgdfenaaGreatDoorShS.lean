/- The writer's WriteString and String. -/
import Derived.Test.YtncgmnijgdfenaaGreatDoorShE
import Derived.Test.YtncgmnijgdfenaaGreatDoorPcD
import Derived.Test.YtncgmnijgdfenaaGreatDoorGlK
import Derived.Test.YtncgmnijgdfenaaGreatDoorPaB
import Derived.Shelf.LaysM
import Derived.Shelf.Strconv.Itoa4
import Derived.Test.YtncgmnijgdfenaaGreatDoorProg
namespace Go.Proofs.YtncgmnijgdfenaaGreatDoor.Gl
open Go Go.RowKit
set_option linter.unusedVariables false
set_option linter.unusedSimpArgs false

/-- what a write keeps: all below the writer, and all above it that is no row of bytes -/
def Kw (b : Nat) (w w' : World) : Prop := Below b w w' ∧ Lib.OthersKept U8 (some b) w w'
theorem Kw.refl (b : Nat) (w : World) : Kw b w w := ⟨Below.refl b w, Lib.OthersKept.refl _ _ w⟩
theorem Kw.trans {b : Nat} {w w1 w2 : World} (h : Kw b w w1) (k : Kw b w1 w2) : Kw b w w2 := ⟨h.1.trans k.1, h.2.trans k.2⟩
theorem Kw.alloc {b : Nat} {w w' : World} (h : Kw b w w') (hb : b ≤ w.heap.size) (o : Obj) : Kw b w (w'.alloc o) := ⟨h.1.alloc (Nat.le_trans hb h.1.size) o, h.2.alloc o⟩
set_option maxHeartbeats 2000000 in
set_option maxRecDepth 100000 in
theorem ws_at (b : Nat) (l : List UInt8) (s : ByteArray) (w : World) (h : Bw w b l) (hlen : l.length + s.size ≤ 140737488355328) :
    Calls Tryz.prog 51 #[.pointer (some ⟨b, 0, none⟩), .string s] w fun e w' => e = .returned (.tuple #[.int .i64 s.size, .nilIface]) ∧ Bw w' b (l ++ s.data.toList) ∧ Kw b w w' := by
  have hbw : b ≤ w.heap.size := by rcases h with h | h <;> exact Nat.le_of_lt h.lt
  obtain ⟨i0, hi, hz0, hz1, hz2⟩ := info_parts u8_info
  have CC := mkHid (cc_at b l w h)
  have hLl : (Lib.byteCells l).length = l.length := Lib.byteCells_length l
  clear h
  go_enter Tryz.func51, Tryz.ntmps51
  go_wp2_with (go_at_call 68; refine CC.out.mono ?_)
  rintro e w1 ⟨rfl, h1, hb1, hk1⟩
  obtain ⟨hB, v, hbk, hown, hne⟩ := h1
  have c0 : w1.cell? ⟨b, 0, none⟩ = some (.pointer (some ⟨b, 0, none⟩)) := by rw [Lib.cell_of_heap hbk]; rfl
  have c1 : w1.cell? ⟨b, 1, none⟩ = some v := by rw [Lib.cell_of_heap hbk]; rfl
  go_wp2_with (at_builtin; refine Lib.wpList_append_own_stringF _ rfl _ _ 72 9 rfl b U8 i0 Tryz.underlying72 Tryz.underlying9 hi hz0 hz1 hz2 _ _ _ rfl hown s rfl ?c3 ?c4 ?c5 ?_)
  case c3 => unfold maxLen; omega
  case c4 => omega
  case c5 => have := hb1.size; omega
  intro v' w2 hown' hgrow _
  have hlt : b < w1.heap.size := by
    rcases Nat.lt_or_ge b w1.heap.size with h' | h'
    · exact h'
    · simp [Array.getElem?_eq_none h'] at hbk
  have hb2 : w2.heap[b]? = some (.cells #[.pointer (some ⟨b, 0, none⟩), v] WT (0, 0)) := by
    rw [hgrow.block b hlt (fun e => hne e.symm)]
    exact hbk
  have d0 : w2.cell? ⟨b, 0, none⟩ = some (.pointer (some ⟨b, 0, none⟩)) := by rw [Lib.cell_of_heap hb2]; rfl
  have d1 : w2.cell? ⟨b, 1, none⟩ = some v := by rw [Lib.cell_of_heap hb2]; rfl
  have f1 : w2.frozen? ⟨b, 1, none⟩ = false := Lib.frozen_of_heap hb2 1
  obtain ⟨ao, n', cap, rfl⟩ : ∃ ao n' cap, v' = .slice ao n' cap := by
    rcases hown'.2 with ⟨hv, _⟩ | ⟨g, cap, cur, fz, hv, _⟩
    · exact ⟨_, _, _, hv⟩
    · exact ⟨_, _, _, hv⟩
  go_wp2
  go_ret2
  refine ⟨rfl, .inr ?_, (hb1.grown hgrow (by have := hb1.size; omega) (fun k hk => (hown.lt k hk).1)).setCell (p := ⟨b, 1, none⟩) hB _, (hk1.grown hgrow (Lib.ownsRowF_kind hown)).setCell ⟨b, 1, none⟩ rfl _⟩
  have hcs : Lib.byteCells (l ++ s.data.toList) = Lib.byteCells l ++ Lib.strCells s := by
    unfold Lib.byteCells
    rw [List.map_append]
    rfl
  rw [hcs]
  exact Lib.BuilderAtF.put (T := WT) (e := U8) hB hb2 (bs' := Lib.byteCells l ++ Lib.strCells s) (by rw [List.length_append, Lib.strCells_length, hLl]; exact hown') (by decide)
set_option maxHeartbeats 2000000 in
set_option maxRecDepth 100000 in
theorem str_at (b : Nat) (l : List UInt8) (w : World) (h : Bw w b l) (h0 : l ≠ []) :
    Calls Tryz.prog 27 #[.pointer (some ⟨b, 0, none⟩)] w fun e w' => e = .returned (.string ⟨l.toArray⟩) ∧ Below b w w' := by
  obtain ⟨p, hAt⟩ : ∃ p, Lib.BuilderAtF WT U8 b b p (Lib.byteCells l) w := by
    rcases h with h | h
    · exact ⟨_, h⟩
    · exact ⟨_, h⟩
  obtain ⟨hB, v, hbk, hown, hne⟩ := hAt
  have hl0 : l.length ≠ 0 := by simpa using h0
  rw [Lib.byteCells_length] at hown
  obtain ⟨g, cap, cur, fz, rfl, hbg, hg, hfz, hnc, hcm, hcs, htake⟩ : ∃ g cap cur fz, v = .slice (some ⟨g, 0, none⟩) l.length cap ∧ b ≤ g ∧ w.heap[g]? = some (.cells cur U8 fz) ∧ fz.2 ≤ l.length * 1 ∧ l.length ≤ cap ∧ cap ≤ maxLen ∧ cur.size = cap * 1 ∧ cur.toList.take (l.length * 1) = Lib.byteCells l := by
    rcases hown.2 with ⟨_, hz⟩ | ⟨g, cap, cur, fz, hv, r⟩
    · exact absurd hz hl0
    · exact ⟨g, cap, cur, fz, hv, r⟩
  have c1 : w.drew.cell? ⟨b, 1, none⟩ = some (.slice (some ⟨g, 0, none⟩) l.length cap) := by
    have : w.drew.heap[b]? = some (.cells #[p, .slice (some ⟨g, 0, none⟩) l.length cap] WT (0, 0)) := hbk
    rw [Lib.cell_of_heap this]; rfl
  have hSD : (Builtin.unsafeSliceData_ #[72] 100 #[.slice (some ⟨g, 0, none⟩) l.length cap]).run Tryz.prog w.drew = .ok (.pointer (some ⟨g, 0, none⟩)) w.drew :=
    Lib.run_unsafeSliceData_row _ _ _ _ _ _ (by omega)
  have hUS : (Builtin.unsafeString_ #[100, 3] 9 #[.pointer (some ⟨g, 0, none⟩), .int .i64 l.length]).run Tryz.prog w.drew = .ok (.string ⟨l.toArray⟩) (w.drew.freeze ⟨g, 0, none⟩ l.length) := by
    refine Lib.run_unsafeString_row w.drew 100 3 9 U8 Tryz.underlying100 (by kernel_rfl) g cur.size (by have hg' : w.drew.heap[g]? = some (.cells cur U8 fz) := hg; simp [World.shape?, hg']) l h0 (by omega) (by unfold maxLen at hcm; omega) ?_
    intro j x hx
    have := hown.cells (g := g) rfl j (.int .u8 x.toNat) (by simp [Lib.byteCells, hx])
    exact this
  clear h htake hcs hfz hg hbk
  have mixed : Tryz.prog.follows .mixedOrders = true := by kernel_rfl
  go_enter Tryz.func27, Tryz.ntmps27
  go_wp2
  go_region_o
  all_goals (go_wp2; go_ret; exact ⟨rfl, Lib.below_freeze (Below.drew (Below.refl b w)) (p := ⟨g, 0, none⟩) hbg _⟩)
/-- a fresh writer holds nothing -/
theorem bw_new (w : World) : Bw (w.alloc (.cells #[.pointer none, .slice none 0 0] WT)) w.heap.size [] := by
  refine .inl ⟨Nat.le_refl _, _, heap_alloc_new w _, World.ownsRowF_nil _ _ _ _, by simp [Value.ownBlock]⟩
end Go.Proofs.YtncgmnijgdfenaaGreatDoor.Gl
/- The writer's put. -/
namespace Go.Proofs.YtncgmnijgdfenaaGreatDoor.Gl
open Go Go.RowKit
set_option linter.unusedVariables false
set_option linter.unusedSimpArgs false

abbrev tbs (s : ByteArray) : List UInt8 := s.data.toList
abbrev ST : TypeId := 9
theorem Bw.lt {w : World} {b : Nat} {l : List UInt8} (h : Bw w b l) : b < w.heap.size := by
  rcases h with h | h <;> exact h.lt
theorem Bw.alloc {w : World} {b : Nat} {l : List UInt8} (h : Bw w b l) (o : Obj) : Bw (w.alloc o) b l := by
  rcases h with h | h
  · exact .inl (h.alloc o)
  · exact .inr (h.alloc o)
theorem Kw.blk {b k : Nat} {w w' : World} {vs : Array Value} {t : TypeId} {fz : Nat × Nat} (h : Kw b w w') (hk : w.heap[k]? = some (.cells vs t fz)) (hb : k ≠ b) (ht : t ≠ U8) : w'.heap[k]? = some (.cells vs t fz) :=
  h.2 k _ hk (fun e => hb (Option.some.inj e)) (fun c f e => ht (by cases e; rfl))
theorem tflat_len {T : List ByteArray} (k : Nat) : ((T.take k).flatMap tbs).length ≤ (T.flatMap tbs).length := by
  have e : T.flatMap tbs = (T.take k).flatMap tbs ++ (T.drop k).flatMap tbs := by rw [← List.flatMap_append, List.take_append_drop]
  rw [e, List.length_append]
  omega
set_option maxHeartbeats 1000000 in
theorem put_at (b g : Nat) (l : List UInt8) (T : List ByteArray) (w : World) (h : Bw w b l) (hgb : g ≠ b) (hg : w.heap[g]? = some (.cells (T.map Value.string).toArray ST (0, 0))) (hn : T.length ≤ 1000) (hlen : l.length + (T.flatMap tbs).length ≤ 140737488355328) :
    Calls Tryz.prog 30 #[.pointer (some ⟨b, 0, none⟩), .slice (some ⟨g, 0, none⟩) T.length T.length] w fun e w' => e = .returned (.tuple #[]) ∧ Bw w' b (l ++ T.flatMap tbs) ∧ Kw b w w' := by
  have HB0 := mkHid h
  have HG := mkHid hg
  have HL := mkHid hlen
  clear h hg hlen
  go_enter Tryz.func30, Tryz.ntmps30
  go_wp2
  go_loopw [8] (fun i wr => ∃ k : Nat, k ≤ T.length ∧ i = .int .i64 k ∧ Hid (Bw wr b (l ++ (T.take k).flatMap tbs)) ∧ Hid (Kw b w wr)) (fun i _ => T.length - (intOf i).toNat)
  case atStart => exact ⟨0, Nat.zero_le _, rfl, mkHid (by simpa using HB0.out), mkHid (Kw.refl b w)⟩
  case round =>
    obtain ⟨k, hk, rfl, hB, hK⟩ := hrel
    by_cases hlt : k < T.length
    · have hgr := mkHid (hK.out.blk HG.out hgb (by decide))
      have hc : wr.cell? ⟨g, k, none⟩ = some (.string T[k]) := by
        rw [Lib.cell_of_heap hgr.out]
        simp [hlt]
      have hts : (T.take (k + 1)).flatMap tbs = (T.take k).flatMap tbs ++ tbs T[k] := by
        rw [List.take_succ_eq_append_getElem hlt, List.flatMap_append]
        simp
      have hl1 := mkHid (tflat_len (T := T) (k + 1))
      rw [hts, List.length_append] at hl1
      have WS := mkHid (ws_at b (l ++ (T.take k).flatMap tbs) T[k] wr hB.out (by
        have h1 := hl1.out
        have h2 := HL.out
        have h3 : (tbs T[k]).length = T[k].size := rfl
        rw [List.length_append]
        omega))
      have HT := mkHid hts
      clear hts
      go_wp2_with (go_at_call 51; refine WS.out.mono ?_; rintro e w2 ⟨rfl, hb2, hk2⟩)
      go_roundw
      case rel => exact ⟨k + 1, by omega, by go_num, mkHid (by rw [HT.out, ← List.append_assoc]; exact hb2), mkHid (hK.out.trans hk2)⟩
      case measure => simp [intOf]; omega
    · go_wp2
      go_end0
      have hk' : k = T.length := by omega
      have h1 := hB.out
      rw [hk', List.take_length] at h1
      exact ⟨rfl, h1, hK.out⟩
/-- texts just laid in a row -/
theorem put_lit (b : Nat) (l : List UInt8) (T : List ByteArray) (w : World) (h : Bw w b l) (hn : T.length ≤ 1000) (hlen : l.length + (T.flatMap tbs).length ≤ 140737488355328) :
    Calls Tryz.prog 30 #[.pointer (some ⟨b, 0, none⟩), .slice (some ⟨w.heap.size, 0, none⟩) T.length T.length] (w.alloc (.cells (T.map Value.string).toArray ST)) fun e w' => e = .returned (.tuple #[]) ∧ Bw w' b (l ++ T.flatMap tbs) ∧ Kw b w w' := by
  have hlt := h.lt
  exact (put_at b w.heap.size l T _ (h.alloc _) (by omega) (heap_alloc_new w _) hn hlen).mono fun e w' ⟨h1, h2, h3⟩ => ⟨h1, h2, ((Kw.refl b w).alloc (by omega) _).trans h3⟩
abbrev PutC (b : Nat) (w : World) (g : Nat) (vs : Array Value) (n : Nat) (l : List UInt8) : Prop :=
  Calls Tryz.prog 30 #[.pointer (some ⟨b, 0, none⟩), .slice (some ⟨g, 0, none⟩) n n] (w.alloc (.cells vs ST)) fun e w' => e = .returned (.tuple #[]) ∧ Bw w' b l ∧ Kw b w w'
theorem put1 {b : Nat} {l : List UInt8} {w : World} (h : Bw w b l) (x : ByteArray) (hlen : l.length + x.size ≤ 140737488355328) {g : Nat} (hg : g = w.heap.size) : PutC b w g #[.string x] 1 (l ++ tbs x) := by
  subst hg
  have := put_lit b l [x] w h (by simp) (by simpa using hlen)
  simpa using this
theorem put2 {b : Nat} {l : List UInt8} {w : World} (h : Bw w b l) (x y : ByteArray) (hlen : l.length + (x.size + y.size) ≤ 140737488355328) {g : Nat} (hg : g = w.heap.size) : PutC b w g #[.string x, .string y] 2 (l ++ (tbs x ++ tbs y)) := by
  subst hg
  have := put_lit b l [x, y] w h (by simp) (by simpa using hlen)
  simpa using this
theorem put3 {b : Nat} {l : List UInt8} {w : World} (h : Bw w b l) (x y z : ByteArray) (hlen : l.length + (x.size + (y.size + z.size)) ≤ 140737488355328) {g : Nat} (hg : g = w.heap.size) : PutC b w g #[.string x, .string y, .string z] 3 (l ++ (tbs x ++ (tbs y ++ tbs z))) := by
  subst hg
  have := put_lit b l [x, y, z] w h (by simp) (by simpa using hlen)
  simpa using this
end Go.Proofs.YtncgmnijgdfenaaGreatDoor.Gl
/- The text of a tree, as pieces: plain mathematics. -/
namespace Go.Proofs.YtncgmnijgdfenaaGreatDoor.Gl
set_option linter.unusedVariables false
set_option linter.unusedSimpArgs false

/-- a blank; a word as it is written, its kind, text and number; a sign that needs no blank behind -/
inductive Pc where
  | b
  | w (k : Nat) (x t : ByteArray) (v : Nat)
  | s (x : ByteArray)
def Pc.txt : Pc → ByteArray
  | .b => blk
  | .w _ x _ _ => x
  | .s x => x
def catP : List Pc → ByteArray
  | [] => emp
  | p :: l => p.txt ++ catP l
theorem emp_app (x : ByteArray) : emp ++ x = x := ByteArray.empty_append
theorem cat_app (l m : List Pc) : catP (l ++ m) = catP l ++ catP m := by
  induction l with
  | nil => exact (emp_app _).symm
  | cons p l ih => show p.txt ++ catP (l ++ m) = p.txt ++ catP l ++ catP m; rw [ih, ByteArray.append_assoc]
abbrev numP (n : Int) : Pc := .w 1 (dec n.toNat) emp n.toNat
abbrev namP (x : ByteArray) : Pc := .w 0 x x 0
abbrev sgP (x : ByteArray) : Pc := .w 2 x x 0
def brkP (b : Bool) (l : List Pc) : List Pc := if b = true then .s kSq :: (l ++ [.s kQs]) else l
/-- do square brackets stand round a term of the kind o, as a part of one of the kind v? -/
def needB (o v : Int) (place : Nat) : Bool := (decide (o = 3 ∨ o = 4) && (decide (v = 2 ∨ v = 5) || decide (place = 1))) || (decide (o = 5) && (decide (v = 2) || (decide (v = 5) && decide (place = 1))))
def heldP (v : Int) (place : Nat) (q : Int × List Pc) : List Pc := brkP (needB q.1 v place) q.2
def strT (o : Int) : Nat := if o = 3 ∨ o = 4 then 0 else if o = 5 then 1 else 2
def tsg (o : Int) : ByteArray := if o = 3 then kPlus else if o = 4 then kMinus else kStar
def jsg (o : Int) : ByteArray := sgOf (6 - o).toNat
def rsg (o : Int) : ByteArray := rels.getD (o - 9).toNat emp
def qsg (o : Int) : ByteArray := if o = 7 then kEx else kAll
abbrev noT : Int × List Pc := (0, [])
def tmPc (o n : Int) (x : ByteArray) (ps : List (Int × List Pc)) : List Pc :=
  if o = 0 then [numP n] else if o = 1 then [namP x] else if o = 2 then .s kMinus :: heldP 2 0 (ps.getD 0 noT)
  else heldP o 0 (ps.getD 0 noT) ++ .b :: sgP (tsg o) :: .b :: heldP o 1 (ps.getD 1 noT)
mutual
def pcT : Tm → List Pc | .mk o n x a => tmPc o n x (pcTL a)
def pcTL : List Tm → List (Int × List Pc) | [] => [] | t :: r => (t.op, pcT t) :: pcTL r
end
def fmPc (o : Int) (x : ByteArray) (m : Int) (ts : List (Int × List Pc)) (ps : List (List Pc)) : List Pc :=
  if o = 0 then [sgP kTrue] else if o = 1 then [sgP kFalse] else if o = 2 then sgP kNot :: .b :: ps.getD 0 []
  else if o ≤ 6 then .s kOpen :: (ps.getD 0 [] ++ .b :: sgP (jsg o) :: .b :: (ps.getD 1 [] ++ [.s kShut]))
  else if o ≤ 8 then sgP (qsg o) :: .b :: namP x :: .s kDot :: .b :: ps.getD 0 []
  else (ts.getD 0 noT).2 ++ .b :: sgP (rsg o) :: .b :: ((ts.getD 1 noT).2 ++ if o = 15 then [.b, sgP kMod, .b, numP m] else [])
mutual
def pcF : Fm → List Pc | .mk o x m t a => fmPc o x m (pcTL t) (pcFL a)
def pcFL : List Fm → List (List Pc) | [] => [] | f :: r => pcF f :: pcFL r
end
def shT (t : Tm) : ByteArray := catP (pcT t)
def shF (f : Fm) : ByteArray := catP (pcF f)
/- numbers that fit -/
def nT (t : Tm) : Bool := decide (t.num ≤ 9223372036854775807)
def nF (f : Fm) : Bool := decide (f.mod ≤ 9223372036854775807)
/- what a well made node has -/
theorem well_tm {nm : ByteArray → Bool} {o n : Int} {x : ByteArray} {a : List Tm} (h : wellT nm (.mk o n x a) = true) :
    (o = 0 ∧ 0 ≤ n ∧ x = emp ∧ a = []) ∨ (o = 1 ∧ n = 0 ∧ nm x = true ∧ a = []) ∨ (o = 2 ∧ n = 0 ∧ x = emp ∧ ∃ t, a = [t]) ∨ ((o = 3 ∨ o = 4 ∨ o = 5) ∧ n = 0 ∧ x = emp ∧ ∃ t u, a = [t, u]) := by
  have hx : (x.toList == []) = true → x = emp := fun e => toList_inj (by rw [beq_iff_eq] at e; rw [e]; decide +kernel)
  have h1 : a.length = 1 → ∃ t, a = [t] := fun e => by
    cases a with
    | nil => cases e
    | cons t r => cases r with
      | nil => exact ⟨t, rfl⟩
      | cons _ _ => simp at e
  have h2 : a.length = 2 → ∃ t u, a = [t, u] := fun e => by
    cases a with
    | nil => cases e
    | cons t r => cases r with
      | nil => simp at e
      | cons u r => cases r with
        | nil => exact ⟨t, u, rfl⟩
        | cons _ _ => simp at e
  replace h : wT nm o n x a.length = true := h
  unfold wT at h
  split at h
  · simp only [Bool.and_eq_true, decide_eq_true_eq, List.length_eq_zero_iff] at h
    exact .inl ⟨‹_›, h.1.1, hx h.1.2, h.2⟩
  · split at h
    · simp only [Bool.and_eq_true, decide_eq_true_eq, List.length_eq_zero_iff] at h
      exact .inr (.inl ⟨‹_›, h.1.1, h.1.2, h.2⟩)
    · split at h
      · simp only [Bool.and_eq_true, decide_eq_true_eq] at h
        exact .inr (.inr (.inl ⟨‹_›, h.1.1, hx h.1.2, h1 h.2⟩))
      · split at h
        · simp only [Bool.and_eq_true, decide_eq_true_eq] at h
          exact .inr (.inr (.inr ⟨‹_›, h.1.1, hx h.1.2, h2 h.2⟩))
        · cases h
theorem all_one {P : Tm → Bool} {o n : Int} {x : ByteArray} {t : Tm} (h : Tm.all P (.mk o n x [t]) = true) : P (.mk o n x [t]) = true ∧ t.all P = true := by
  rw [Tm.all, Tm.allL, Tm.allL, Bool.and_eq_true, Bool.and_eq_true] at h
  exact ⟨h.1, h.2.1⟩
theorem all_two {P : Tm → Bool} {o n : Int} {x : ByteArray} {t u : Tm} (h : Tm.all P (.mk o n x [t, u]) = true) : P (.mk o n x [t, u]) = true ∧ t.all P = true ∧ u.all P = true := by
  rw [Tm.all, Tm.allL, Tm.allL, Tm.allL, Bool.and_eq_true, Bool.and_eq_true, Bool.and_eq_true] at h
  exact ⟨h.1, h.2.1, h.2.2.1⟩
theorem all_own {P : Tm → Bool} {o n : Int} {x : ByteArray} {a : List Tm} (h : Tm.all P (.mk o n x a) = true) : P (.mk o n x a) = true := by
  rw [Tm.all, Bool.and_eq_true] at h
  exact h.1
theorem pc_two {o n : Int} {x : ByteArray} {t u : Tm} (ho : o = 3 ∨ o = 4 ∨ o = 5) : pcT (.mk o n x [t, u]) = heldP o 0 (t.op, pcT t) ++ .b :: sgP (tsg o) :: .b :: heldP o 1 (u.op, pcT u) := by
  rw [pcT, pcTL, pcTL, pcTL, tmPc, if_neg (by omega), if_neg (by omega), if_neg (by omega)]
  rfl
theorem pc_neg {n : Int} {x : ByteArray} {t : Tm} : pcT (.mk 2 n x [t]) = .s kMinus :: heldP 2 0 (t.op, pcT t) := by
  rw [pcT, pcTL, pcTL, tmPc, if_neg (by omega), if_neg (by omega), if_pos rfl]
  rfl
theorem pc_num {n : Int} {x : ByteArray} {a : List Tm} : pcT (.mk 0 n x a) = [numP n] := by rw [pcT, tmPc, if_pos rfl]
theorem pc_nam {n : Int} {x : ByteArray} {a : List Tm} : pcT (.mk 1 n x a) = [namP x] := by rw [pcT, tmPc, if_neg (by omega), if_pos rfl]
theorem len_one {α : Type} {a : List α} (e : a.length = 1) : ∃ t, a = [t] := by
  cases a with
  | nil => cases e
  | cons t r => cases r with
    | nil => exact ⟨t, rfl⟩
    | cons _ _ => simp at e
theorem len_two {α : Type} {a : List α} (e : a.length = 2) : ∃ t u, a = [t, u] := by
  cases a with
  | nil => cases e
  | cons t r => cases r with
    | nil => simp at e
    | cons u r => cases r with
      | nil => exact ⟨t, u, rfl⟩
      | cons _ _ => simp at e
/-- what a well made formula's node has -/
inductive Shp (nm : ByteArray → Bool) : Int → ByteArray → Int → List Tm → List Fm → Prop
  | leaf {o} : o = 0 ∨ o = 1 → Shp nm o emp 0 [] []
  | not {f} : Shp nm 2 emp 0 [] [f]
  | pair {o f g} : 3 ≤ o → o ≤ 6 → Shp nm o emp 0 [] [f, g]
  | qu {o x f} : o = 7 ∨ o = 8 → nm x = true → Shp nm o x 0 [] [f]
  | rel {o t u} : 9 ≤ o → o ≤ 14 → Shp nm o emp 0 [t, u] []
  | cong {m t u} : 1 ≤ m → Shp nm 15 emp m [t, u] []
theorem well_fm {nm : ByteArray → Bool} {o m : Int} {x : ByteArray} {t : List Tm} {a : List Fm} (h : wellF nm (.mk o x m t a) = true) : Shp nm o x m t a := by
  have hx : (x.toList == []) = true → x = emp := fun e => toList_inj (by rw [beq_iff_eq] at e; rw [e]; decide +kernel)
  replace h : wF nm o x m t.length a.length = true := h
  unfold wF at h
  split at h
  · rename_i ho
    simp only [Bool.and_eq_true, decide_eq_true_eq, List.length_eq_zero_iff] at h
    obtain ⟨⟨⟨h1, rfl⟩, rfl⟩, h2⟩ := h
    obtain ⟨f, rfl⟩ := len_one h2
    exact .qu ho h1
  · split at h
    · rename_i _ ho
      subst ho
      simp only [Bool.and_eq_true, decide_eq_true_eq, List.length_eq_zero_iff] at h
      obtain ⟨⟨⟨h1, h2⟩, h3⟩, rfl⟩ := h
      obtain ⟨t, u, rfl⟩ := len_two h3
      rw [hx h1]
      exact .cong h2
    · split at h
      · rename_i n1 n2 ho
        simp only [Bool.and_eq_true, decide_eq_true_eq] at h
        obtain ⟨⟨⟨h1, rfl⟩, h3⟩, h4⟩ := h
        rw [hx h1]
        by_cases h9 : 9 ≤ o
        · rw [if_pos h9] at h3
          rw [if_neg (by omega), if_neg (by omega), List.length_eq_zero_iff] at h4
          subst h4
          obtain ⟨t, u, rfl⟩ := len_two h3
          exact .rel h9 ho.2
        · rw [if_neg h9, List.length_eq_zero_iff] at h3
          subst h3
          by_cases e2 : o = 2
          · subst e2
            rw [if_pos rfl] at h4
            obtain ⟨f, rfl⟩ := len_one h4
            exact .not
          · rw [if_neg e2] at h4
            by_cases e3 : 3 ≤ o ∧ o ≤ 6
            · rw [if_pos e3] at h4
              obtain ⟨f, g, rfl⟩ := len_two h4
              exact .pair e3.1 e3.2
            · rw [if_neg e3, List.length_eq_zero_iff] at h4
              subst h4
              exact .leaf (by omega)
      · cases h
theorem fll_own {P : Tm → Bool} {Q : Fm → Bool} {o m : Int} {x : ByteArray} {t : List Tm} {a : List Fm} (h : Fm.all P Q (.mk o x m t a) = true) : Q (.mk o x m t a) = true ∧ Tm.allL P t = true ∧ Fm.allL P Q a = true := by
  rw [Fm.all, Bool.and_eq_true, Bool.and_eq_true] at h
  exact ⟨h.1.1, h.1.2, h.2⟩
theorem fl_one {P : Tm → Bool} {Q : Fm → Bool} {f : Fm} (h : Fm.allL P Q [f] = true) : f.all P Q = true := by
  rw [Fm.allL, Bool.and_eq_true] at h; exact h.1
theorem fl_two {P : Tm → Bool} {Q : Fm → Bool} {f g : Fm} (h : Fm.allL P Q [f, g] = true) : f.all P Q = true ∧ g.all P Q = true := by
  rw [Fm.allL, Fm.allL, Bool.and_eq_true, Bool.and_eq_true] at h; exact ⟨h.1, h.2.1⟩
theorem tl_two {P : Tm → Bool} {f g : Tm} (h : Tm.allL P [f, g] = true) : f.all P = true ∧ g.all P = true := by
  rw [Tm.allL, Tm.allL, Bool.and_eq_true, Bool.and_eq_true] at h; exact ⟨h.1, h.2.1⟩
theorem fc_tru {x : ByteArray} {m : Int} {t : List Tm} {a : List Fm} : pcF (.mk 0 x m t a) = [sgP kTrue] := by rw [pcF, fmPc, if_pos rfl]
theorem fc_fls {x : ByteArray} {m : Int} {t : List Tm} {a : List Fm} : pcF (.mk 1 x m t a) = [sgP kFalse] := by rw [pcF, fmPc, if_neg (by omega), if_pos rfl]
theorem fc_not {x : ByteArray} {m : Int} {t : List Tm} {f : Fm} : pcF (.mk 2 x m t [f]) = sgP kNot :: .b :: pcF f := by
  rw [pcF, pcFL, pcFL, fmPc, if_neg (by omega), if_neg (by omega), if_pos rfl]; rfl
theorem fc_pair {o : Int} {x : ByteArray} {m : Int} {t : List Tm} {f g : Fm} (h1 : 3 ≤ o) (h2 : o ≤ 6) : pcF (.mk o x m t [f, g]) = .s kOpen :: (pcF f ++ .b :: sgP (jsg o) :: .b :: (pcF g ++ [.s kShut])) := by
  rw [pcF, pcFL, pcFL, pcFL, fmPc, if_neg (by omega), if_neg (by omega), if_neg (by omega), if_pos h2]; rfl
theorem fc_qu {o : Int} {x : ByteArray} {m : Int} {t : List Tm} {f : Fm} (h : o = 7 ∨ o = 8) : pcF (.mk o x m t [f]) = sgP (qsg o) :: .b :: namP x :: .s kDot :: .b :: pcF f := by
  rw [pcF, pcFL, pcFL, fmPc, if_neg (by omega), if_neg (by omega), if_neg (by omega), if_neg (by omega), if_pos (by omega)]; rfl
theorem fc_rel {o : Int} {x : ByteArray} {m : Int} {t u : Tm} {a : List Fm} (h1 : 9 ≤ o) (h2 : o ≤ 14) : pcF (.mk o x m [t, u] a) = pcT t ++ .b :: sgP (rsg o) :: .b :: pcT u := by
  rw [pcF, pcTL, pcTL, pcTL, fmPc, if_neg (by omega), if_neg (by omega), if_neg (by omega), if_neg (by omega), if_neg (by omega), if_neg (by omega)]
  show pcT t ++ .b :: sgP (rsg o) :: .b :: (pcT u ++ []) = _
  rw [List.append_nil]
theorem fc_cong {x : ByteArray} {m : Int} {t u : Tm} {a : List Fm} : pcF (.mk 15 x m [t, u] a) = pcT t ++ .b :: sgP (rsg 15) :: .b :: (pcT u ++ .b :: sgP kMod :: .b :: [numP m]) := by
  rw [pcF, pcTL, pcTL, pcTL, fmPc, if_neg (by omega), if_neg (by omega), if_neg (by omega), if_neg (by omega), if_neg (by omega), if_pos rfl]; rfl
end Go.Proofs.YtncgmnijgdfenaaGreatDoor.Gl
/- strconv.FormatInt: the contract off the shelf, at this program. -/
namespace Go.Proofs.YtncgmnijgdfenaaGreatDoor.Gl
open Go.Proofs
open Go.Shelf
def laysM173_ren : Go.Shelf.Ren := ⟨fun | 173 => 62 | 246 => 80 | 283 => 95 | 284 => 96 | 285 => 97 | 286 => 98 | 129 => 106 | 317 => 105 | 318 => 107 | 319 => 108 | 320 => 109 | 337 => 118 | 338 => 119 | n => n, fun | 2 => 2 | 3 => 3 | 9 => 9 | 4 => 4 | 171 => 143 | 0 => 0 | 53 => 144 | 37 => 72 | 5 => 5 | 173 => 147 | 212 => 154 | 51 => 155 | 20 => 20 | 213 => 156 | 46 => 157 | 232 => 172 | 233 => 173 | n => n, fun | 17 => 1 | 18 => 4 | 19 => 5 | n => n⟩
theorem laysM173 : Go.Proofs.LaysM.n173 Tryz.prog laysM173_ren := {
  mixed := by kernel_rfl
  f129 := Tryz.func106.trans (congrArg some (by kernel_rfl))
  f173 := Tryz.func62.trans (congrArg some (by kernel_rfl))
  f246 := Tryz.func80.trans (congrArg some (by kernel_rfl))
  f283 := Tryz.func95.trans (congrArg some (by kernel_rfl))
  f284 := Tryz.func96.trans (congrArg some (by kernel_rfl))
  f285 := Tryz.func97.trans (congrArg some (by kernel_rfl))
  f286 := Tryz.func98.trans (congrArg some (by kernel_rfl))
  f317 := Tryz.func105.trans (congrArg some (by kernel_rfl))
  f318 := Tryz.func107.trans (congrArg some (by kernel_rfl))
  f319 := Tryz.func108.trans (congrArg some (by kernel_rfl))
  f320 := Tryz.func109.trans (congrArg some (by kernel_rfl))
  f337 := Tryz.func118.trans (congrArg some (by kernel_rfl))
  f338 := Tryz.func119.trans (congrArg some (by kernel_rfl))
  t0 := Tryz.underlying0
  a0 := Tryz.isAgg0
  z0 := Tryz.sizeOf0
  v0 := Tryz.zeroValue0
  t2 := Tryz.underlying2
  a2 := Tryz.isAgg2
  z2 := Tryz.sizeOf2
  v2 := Tryz.zeroValue2
  t3 := Tryz.underlying3
  a3 := Tryz.isAgg3
  z3 := Tryz.sizeOf3
  v3 := Tryz.zeroValue3
  t4 := Tryz.underlying4
  a4 := Tryz.isAgg4
  z4 := Tryz.sizeOf4
  v4 := Tryz.zeroValue4
  t5 := Tryz.underlying5
  a5 := Tryz.isAgg5
  z5 := Tryz.sizeOf5
  v5 := Tryz.zeroValue5
  t9 := Tryz.underlying9
  a9 := Tryz.isAgg9
  z9 := Tryz.sizeOf9
  v9 := Tryz.zeroValue9
  t20 := Tryz.underlying20
  a20 := Tryz.isAgg20
  z20 := Tryz.sizeOf20
  v20 := Tryz.zeroValue20
  t37 := Tryz.underlying72
  a37 := Tryz.isAgg72
  z37 := Tryz.sizeOf72
  v37 := Tryz.zeroValue72
  t46 := Tryz.underlying157
  a46 := Tryz.isAgg157
  z46 := Tryz.sizeOf157
  v46 := Tryz.zeroValue157
  t51 := Tryz.underlying155
  a51 := Tryz.isAgg155
  z51 := Tryz.sizeOf155
  v51 := Tryz.zeroValue155
  t53 := Tryz.underlying144
  a53 := Tryz.isAgg144
  z53 := Tryz.sizeOf144
  v53 := Tryz.zeroValue144
  t171 := Tryz.underlying143
  a171 := Tryz.isAgg143
  z171 := Tryz.sizeOf143
  v171 := Tryz.zeroValue143
  t173 := Tryz.underlying147
  a173 := Tryz.isAgg147
  z173 := Tryz.sizeOf147
  v173 := Tryz.zeroValue147
  t212 := Tryz.underlying154
  a212 := Tryz.isAgg154
  z212 := Tryz.sizeOf154
  v212 := Tryz.zeroValue154
  t213 := Tryz.underlying156
  a213 := Tryz.isAgg156
  z213 := Tryz.sizeOf156
  t232 := Tryz.underlying172
  a232 := Tryz.isAgg172
  z232 := Tryz.sizeOf172
  v232 := Tryz.zeroValue172
  t233 := Tryz.underlying173
  a233 := Tryz.isAgg173
  z233 := Tryz.sizeOf173
  v233 := Tryz.zeroValue173
  g17 := by kernel_rfl
  g18 := by kernel_rfl
  g19 := by kernel_rfl
  i0 := by kernel_rfl
  i2 := by kernel_rfl
  i3 := by kernel_rfl
  i4 := by kernel_rfl
  i5 := by kernel_rfl
  i9 := by kernel_rfl
  i20 := by kernel_rfl
  i37 := by kernel_rfl
  i46 := by kernel_rfl
  i51 := by kernel_rfl
  i53 := by kernel_rfl
  i171 := by kernel_rfl
  i173 := by kernel_rfl
  i212 := by kernel_rfl
  i232 := by kernel_rfl
  i233 := by kernel_rfl
  m17 := by kernel_rfl
  m18 := by kernel_rfl
  m19 := by kernel_rfl }
open Go.RowKit Go.Sort Go.Lib in
theorem format_lib (n : Int) (h0 : -9223372036854775808 ≤ n) (h1 : n ≤ 9223372036854775807) (w : World) (htab : Lib.TabIs Tryz.prog w "internal/strconv.uint64pow10" .u64 Lib.pow10Tab) :
    Calls Tryz.prog 62 #[.int .i64 n, .int .i64 10] w fun e w' => e = .returned (.string ⟨(Lib.itoa n).toArray⟩) ∧ ∃ k os, w' = grow (w.drewN k) os := Any.strconv_FormatInt_10 laysM173 n h0 h1 w htab
end Go.Proofs.YtncgmnijgdfenaaGreatDoor.Gl
