/- Slices of integers that read as lists. -/
import Derived.Test.YtabfhdmcljdjhaaGreatDoorProg
import Derived.WalkKit
import Derived.WalkLawsBesides
import Derived.WalkSpells
import Derived.Laws.AppendOwnNone
import Derived.Laws.BitsAllLaws
import Derived.Deep.Light
import Derived.OneCell
import Derived.OwnWalk
import Derived.Laws.OwnMore
import Derived.RegionTactic
import Derived.ChangeAlike
import Derived.Deep.QuietTactic
import Derived.BigQuiet
namespace Go.Proofs.YtabfhdmcljdjhaaGreatDoor.Gl
open Go.RowKit
set_option linter.unusedVariables false

theorem ret1 {a c : Int} (h : a = c) : Ending.returned (.int .i64 a) = .returned (.int .i64 c) := by rw [h]
theorem retb {a c : Bool} (h : a = c) : Ending.returned (.bool a) = .returned (.bool c) := by rw [h]
theorem getD_of {zs : List Int} {i : Nat} (h : i < zs.length) : zs.getD i 0 = zs[i] := by
  rw [List.getD_eq_getElem?_getD, List.getElem?_eq_getElem h, Option.getD_some]
/-- the slice reads as the numbers zs -/
structure RdZ (w : World) (ao : Option Addr) (len cap : Nat) (zs : List Int) : Prop where
  eqlen : zs.length = len
  lecap : len ≤ cap
  lemax : cap ≤ 9223372036854775807
  isnil : ao = none → cap = 0
  cell : ∀ i, i < len → ∃ b off, ao = some ⟨b, off, none⟩ ∧ w.cell? ⟨b, off + i, none⟩ = some (.int .i64 (zs.getD i 0))
theorem RdZ.below {w w' : World} {ao : Option Addr} {len cap : Nat} {zs : List Int} (h : RdZ w ao len cap zs) {B : Nat} (hB : w.heap.size ≤ B) (hb : Below B w w') : RdZ w' ao len cap zs := by
  refine ⟨h.eqlen, h.lecap, h.lemax, h.isnil, fun i hi => ?_⟩
  obtain ⟨b, off, rfl, hc⟩ := h.cell i hi
  have hlt := World.block_lt_of_cell? _ _ hc
  exact ⟨b, off, rfl, (hb.cell (p := ⟨b, off + i, none⟩) (Nat.lt_of_lt_of_le hlt hB)).trans hc⟩
abbrev cellsZ (zs : List Int) : List Value := zs.map (Value.int .i64)
/-- a row just built reads as its numbers -/
theorem rdz_built (W : World) (zs : List Int) (n : Nat) (t : TypeId) (g : Nat) (hg : W.heap.size = g) (hn : zs.length = n) (hm : n ≤ 9223372036854775807) : RdZ (W.alloc (.cells (cellsZ zs).toArray t)) (some ⟨g, 0, none⟩) n n zs := by
  subst hg
  refine ⟨hn, Nat.le_refl _, hm, (fun h => nomatch h), (fun i hi => ⟨W.heap.size, 0, rfl, ?_⟩)⟩
  rw [Nat.zero_add]
  have hi' : i < zs.length := by omega
  simp [List.getElem?_eq_getElem hi']

/-- is r in one of the ranges? -/
def withinB (r : Int) : List Int → Bool
  | a :: b :: l => (decide (a ≤ r) && decide (r ≤ b)) || withinB r l
  | _ => false
theorem within_step (r : Int) (zs : List Int) (k : Nat) (h : k + 1 < zs.length) : withinB r (zs.drop k) = ((decide (zs.getD k 0 ≤ r) && decide (r ≤ zs.getD (k + 1) 0)) || withinB r (zs.drop (k + 2))) := by
  rw [List.drop_eq_getElem_cons (show k < zs.length by omega), List.drop_eq_getElem_cons (show k + 1 < zs.length by omega), withinB, getD_of (show k < zs.length by omega), getD_of (show k + 1 < zs.length by omega)]
set_option maxHeartbeats 1000000 in
theorem within_at (r : Int) (ao : Option Addr) (m cap : Nat) (zs : List Int) (w : World) (h : RdZ w ao (2 * m) cap zs) (hm : m ≤ 100) :
    Calls Tryz.prog 90 #[.int .i64 r, .slice ao (2 * m) cap] w fun e w' => e = .returned (.bool (withinB r zs)) ∧ w = w' := by
  have hcap := h.lecap
  have hmax := h.lemax
  have HL : Hid (zs.length = 2 * m) := h.eqlen
  go_enter Tryz.func90, Tryz.ntmps90
  go_wp2
  go_loop [5] (fun i => ∃ k : Nat, k ≤ m ∧ i = .int .i64 ((2 * k : Nat) : Int) ∧ Hid (withinB r zs = withinB r (zs.drop (2 * k)))) (fun i => 2 * m + 2 - (intOf i).toNat)
  case atStart => exact ⟨0, Nat.zero_le _, rfl, rfl⟩
  case round =>
    obtain ⟨k, hk, rfl, hinv⟩ := hrel
    by_cases hlt : k < m
    · obtain ⟨b, off, rfl, hc0⟩ := h.cell (2 * k) (by omega)
      obtain ⟨b', off', e', hc1⟩ := h.cell (2 * k + 1) (by omega)
      obtain ⟨rfl, rfl⟩ : b = b' ∧ off = off' := by simpa using e'
      have HS : Hid (withinB r zs = ((decide (zs.getD (2 * k) 0 ≤ r) && decide (r ≤ zs.getD (2 * k + 1) 0)) || withinB r (zs.drop (2 * (k + 1))))) := by
        show _ = _
        rw [hinv.out, within_step r zs (2 * k) (by rw [HL.out]; omega)]; rfl
      clear e' hinv
      generalize hx : zs.getD (2 * k) 0 = x at *
      generalize hy : zs.getD (2 * k + 1) 0 = y at *
      clear hx hy
      obtain ⟨q, hq⟩ : ∃ q, 2 * k = q := ⟨_, rfl⟩
      have HQ : Hid (2 * k = q) := hq
      have hq1 : q + 1 < 2 * m := by omega
      have hq2 : q ≤ 200 := by omega
      rw [hq] at hc0 hc1 ⊢
      clear hq
      by_cases h1 : x ≤ r
      · by_cases h2 : r ≤ y
        · have HE : Hid (withinB r zs = true) := by show _ = _; rw [HS.out]; simp [h1, h2]
          go_wp2
          go_ret
          exact ⟨retb HE.out.symm, rfl⟩
        · have HE : Hid (withinB r zs = withinB r (zs.drop (2 * (k + 1)))) := by show _ = _; rw [HS.out]; simp [h2]
          go_wp2
          go_round
          case rel => exact ⟨k + 1, by omega, congrArg (Value.int .i64) (by have := HQ.out; omega), HE⟩
          case measure => simp [intOf]; omega
      · have HE : Hid (withinB r zs = withinB r (zs.drop (2 * (k + 1)))) := by show _ = _; rw [HS.out]; simp [h1]
        go_wp2
        go_round
        case rel => exact ⟨k + 1, by omega, congrArg (Value.int .i64) (by have := HQ.out; omega), HE⟩
        case measure => simp [intOf]; omega
    · obtain rfl : k = m := by omega
      have HE : Hid (withinB r zs = false) := by
        show _ = _
        rw [hinv.out, List.drop_of_length_le (by rw [HL.out]; exact Nat.le_refl _)]; rfl
      go_wp2
      go_ret
      exact ⟨retb HE.out.symm, rfl⟩
abbrev starts : List Int := [65, 90, 97, 122, 95, 95, 913, 929, 931, 937, 945, 969]
abbrev rests : List Int := [48, 57, 8242, 8242, 8320, 8329]
def stB (r : Int) : Bool := withinB r starts
def reB (r : Int) : Bool := stB r || withinB r rests
theorem rstart_at (r : Int) (w : World) :
    Calls Tryz.prog 60 #[.int .i64 r] w fun e w' => e = .returned (.bool (stB r)) ∧ Below w.heap.size w w' := by
  go_enter Tryz.func60, Tryz.ntmps60
  go_wp2_with (go_at_call 90; refine (within_at r _ 6 _ starts _ (rdz_built w starts 12 _ _ rfl rfl (by omega)) (by omega)).mono ?_; rintro e w' ⟨rfl, rfl⟩)
  go_ret
  exact ⟨rfl, (Below.refl _ _).alloc (Nat.le_refl _) _⟩
end Go.Proofs.YtabfhdmcljdjhaaGreatDoor.Gl
/- The document's Rest, Blank, Plain, Reserved. -/
namespace Go.Proofs.YtabfhdmcljdjhaaGreatDoor.Gl
open Go.RowKit
set_option linter.unusedVariables false

theorem rrest_at (r : Int) (w : World) :
    Calls Tryz.prog 91 #[.int .i64 r] w fun e w' => e = .returned (.bool (reB r)) ∧ Below w.heap.size w w' := by
  cases hs : stB r with
  | true =>
    have HE : Hid (reB r = true) := by show _ = _; unfold reB; rw [hs]; rfl
    have ST : Hid (∀ w, Calls Tryz.prog 60 #[.int .i64 r] w fun e w' => e = .returned (.bool true) ∧ Below w.heap.size w w') := fun w => by rw [← hs]; exact rstart_at r w
    clear hs
    go_enter Tryz.func91, Tryz.ntmps91
    go_wp2_with (go_at_call 60; refine (ST.out _).mono ?_; rintro e w1 ⟨rfl, hB1⟩)
    go_ret
    exact ⟨retb HE.out.symm, hB1⟩
  | false =>
    have HE : Hid (reB r = withinB r rests) := by show _ = _; unfold reB; rw [hs]; rfl
    have ST : Hid (∀ w, Calls Tryz.prog 60 #[.int .i64 r] w fun e w' => e = .returned (.bool false) ∧ Below w.heap.size w w') := fun w => by rw [← hs]; exact rstart_at r w
    clear hs
    go_enter Tryz.func91, Tryz.ntmps91
    go_wp2_with (first
      | (go_at_call 60; refine (ST.out _).mono ?_; rintro e w1 ⟨rfl, hB1⟩)
      | (go_at_call 90; refine (within_at r _ 3 _ rests _ (rdz_built w1 rests 6 _ _ rfl rfl (by omega)) (by omega)).mono ?_; rintro e w' ⟨rfl, rfl⟩))
    go_ret
    exact ⟨retb HE.out.symm, hB1.alloc hB1.size _⟩
def blB (r : Int) : Bool := decide (r = 32 ∨ r = 9 ∨ r = 10 ∨ r = 13)
theorem rblank_at (r : Int) (w : World) :
    Calls Tryz.prog 35 #[.int .i64 r] w fun e w' => e = .returned (.bool (blB r)) ∧ w = w' := by
  by_cases h : r = 32 ∨ r = 9 ∨ r = 10 ∨ r = 13
  · have HE : Hid (blB r = true) := decide_eq_true h
    rcases h with rfl | rfl | rfl | rfl
    all_goals
      go_enter Tryz.func35, Tryz.ntmps35
      go_wp2
      go_ret
      exact ⟨retb HE.out.symm, rfl⟩
  · have HE : Hid (blB r = false) := decide_eq_false h
    have h1 : (r == 32) = false := by simp; omega
    have h2 : (r == 9) = false := by simp; omega
    have h3 : (r == 10) = false := by simp; omega
    have h4 : (r == 13) = false := by simp; omega
    clear h
    go_enter Tryz.func35, Tryz.ntmps35
    go_wp2
    go_ret
    exact ⟨retb HE.out.symm, rfl⟩
abbrev emp : ByteArray := ⟨#[]⟩
/-- the slice reads as the texts ss -/
structure RdS (w : World) (ao : Option Addr) (len cap : Nat) (ss : List ByteArray) : Prop where
  eqlen : ss.length = len
  lecap : len ≤ cap
  lemax : cap ≤ 9223372036854775807
  isnil : ao = none → cap = 0
  cell : ∀ i, i < len → ∃ b off, ao = some ⟨b, off, none⟩ ∧ w.cell? ⟨b, off + i, none⟩ = some (.string (ss.getD i emp))
theorem RdS.below {w w' : World} {ao : Option Addr} {len cap : Nat} {ss : List ByteArray} (h : RdS w ao len cap ss) {B : Nat} (hB : w.heap.size ≤ B) (hb : Below B w w') : RdS w' ao len cap ss := by
  refine ⟨h.eqlen, h.lecap, h.lemax, h.isnil, fun i hi => ?_⟩
  obtain ⟨b, off, rfl, hc⟩ := h.cell i hi
  have hlt := World.block_lt_of_cell? _ _ hc
  exact ⟨b, off, rfl, (hb.cell (p := ⟨b, off + i, none⟩) (Nat.lt_of_lt_of_le hlt hB)).trans hc⟩
abbrev cellsS (ss : List ByteArray) : List Value := ss.map Value.string
theorem sgetD_of {ss : List ByteArray} {i : Nat} (h : i < ss.length) : ss.getD i emp = ss[i] := by
  rw [List.getD_eq_getElem?_getD, List.getElem?_eq_getElem h, Option.getD_some]
theorem rds_built (W : World) (ss : List ByteArray) (n : Nat) (t : TypeId) (g : Nat) (hg : W.heap.size = g) (hn : ss.length = n) (hm : n ≤ 9223372036854775807) : RdS (W.alloc (.cells (cellsS ss).toArray t)) (some ⟨g, 0, none⟩) n n ss := by
  subst hg
  refine ⟨hn, Nat.le_refl _, hm, (fun h => nomatch h), (fun i hi => ⟨W.heap.size, 0, rfl, ?_⟩)⟩
  rw [Nat.zero_add]
  have hi' : i < ss.length := by omega
  simp [List.getElem?_eq_getElem hi']
abbrev words : List ByteArray := [⟨#[97, 110, 100]⟩, ⟨#[111, 114]⟩, ⟨#[110, 111, 116]⟩, ⟨#[101, 120]⟩, ⟨#[97, 108, 108]⟩, ⟨#[109, 111, 100]⟩, ⟨#[116, 114, 117, 101]⟩, ⟨#[102, 97, 108, 115, 101]⟩]
/-- is the text one of these? -/
def anyS (s : ByteArray) : List ByteArray → Bool
  | [] => false
  | x :: l => (x.toList == s.toList) || anyS s l
theorem any_step (s : ByteArray) (ss : List ByteArray) (k : Nat) (h : k < ss.length) : anyS s (ss.drop k) = (((ss.getD k emp).toList == s.toList) || anyS s (ss.drop (k + 1))) := by
  rw [List.drop_eq_getElem_cons h, anyS, sgetD_of h]
def rsB (s : ByteArray) : Bool := anyS s words
set_option maxHeartbeats 1000000 in
theorem rreserved_at (s : ByteArray) (w : World) :
    Calls Tryz.prog 62 #[.string s] w fun e w' => e = .returned (.bool (rsB s)) ∧ Below w.heap.size w w' := by
  have hR : RdS (w.alloc (.cells #[.string ⟨#[97, 110, 100]⟩, .string ⟨#[111, 114]⟩, .string ⟨#[110, 111, 116]⟩, .string ⟨#[101, 120]⟩, .string ⟨#[97, 108, 108]⟩, .string ⟨#[109, 111, 100]⟩, .string ⟨#[116, 114, 117, 101]⟩, .string ⟨#[102, 97, 108, 115, 101]⟩] 9)) (some ⟨w.heap.size, 0, none⟩) 8 8 words := rds_built w words 8 9 w.heap.size rfl rfl (by omega)
  have hB : Below w.heap.size w (w.alloc (.cells #[.string ⟨#[97, 110, 100]⟩, .string ⟨#[111, 114]⟩, .string ⟨#[110, 111, 116]⟩, .string ⟨#[101, 120]⟩, .string ⟨#[97, 108, 108]⟩, .string ⟨#[109, 111, 100]⟩, .string ⟨#[116, 114, 117, 101]⟩, .string ⟨#[102, 97, 108, 115, 101]⟩] 9)) := (Below.refl _ _).alloc (Nat.le_refl _) _
  have HR : Hid _ := hR
  clear hR
  go_enter Tryz.func62, Tryz.ntmps62
  go_wp2
  go_loop [4] (fun i => ∃ k : Nat, k ≤ 8 ∧ i = .int .i64 k ∧ Hid (rsB s = anyS s (words.drop k))) (fun i => 8 - (intOf i).toNat)
  case atStart => exact ⟨0, Nat.zero_le _, rfl, rfl⟩
  case round =>
    obtain ⟨k, hk, rfl, hinv⟩ := hrel
    by_cases hlt : k < 8
    · obtain ⟨b, off, e, hc⟩ := HR.out.cell k hlt
      obtain ⟨rfl, rfl⟩ : w.heap.size = b ∧ 0 = off := by simpa using e
      rw [Nat.zero_add] at hc
      have HS : Hid (rsB s = (((words.getD k emp).toList == s.toList) || anyS s (words.drop (k + 1)))) := hinv.out.trans (any_step s words k hlt)
      generalize hx : words.getD k emp = x at *
      clear hx e hinv
      cases he : (x.toList == s.toList) with
      | true =>
        have HE : Hid (rsB s = true) := by show _ = _; rw [HS.out, he]; rfl
        clear HS
        go_wp2
        go_ret
        exact ⟨retb HE.out.symm, hB⟩
      | false =>
        have HE : Hid (rsB s = anyS s (words.drop (k + 1))) := by show _ = _; rw [HS.out, he]; rfl
        clear HS
        go_wp2
        go_round
        case rel => exact ⟨k + 1, by omega, by go_num, HE⟩
        case measure => simp [intOf]; omega
    · obtain rfl : k = 8 := by omega
      have HE : Hid (rsB s = false) := hinv.out
      clear hinv
      go_wp2
      go_ret
      exact ⟨retb HE.out.symm, hB⟩
abbrev marks : List Int := [8804, 8805, 8800, 8801, 8722, 183, 8594, 8596, 8743, 8744, 172, 8707, 8704]
abbrev signs : List ByteArray := [⟨#[60, 61]⟩, ⟨#[62, 61]⟩, ⟨#[33, 61]⟩, ⟨#[126]⟩, ⟨#[45]⟩, ⟨#[42]⟩, ⟨#[45, 62]⟩, ⟨#[60, 45, 62]⟩, ⟨#[97, 110, 100]⟩, ⟨#[111, 114]⟩, ⟨#[110, 111, 116]⟩, ⟨#[101, 120]⟩, ⟨#[97, 108, 108]⟩]
/-- the text that a mark stands for -/
def look (r : Int) : List Int → List ByteArray → ByteArray
  | m :: ms, x :: xs => if m = r then x else look r ms xs
  | _, _ => emp
def plB (r : Int) : ByteArray := look r marks signs
theorem look_step (r : Int) (ms : List Int) (xs : List ByteArray) (k : Nat) (h : k < ms.length) (h' : k < xs.length) : look r (ms.drop k) (xs.drop k) = if ms.getD k 0 = r then xs.getD k emp else look r (ms.drop (k + 1)) (xs.drop (k + 1)) := by
  rw [List.drop_eq_getElem_cons h, List.drop_eq_getElem_cons h', look, getD_of h, sgetD_of h']
theorem rets {a c : ByteArray} (h : a = c) : Ending.returned (.string a) = .returned (.string c) := by rw [h]
set_option maxHeartbeats 1000000 in
theorem rplain_at (r : Int) (w : World) :
    Calls Tryz.prog 66 #[.int .i64 r] w fun e w' => e = .returned (.string (plB r)) ∧ Below w.heap.size w w' := by
  have hN : Below (w.heap.size + 1) (w.alloc (.cells #[.int .i64 8804, .int .i64 8805, .int .i64 8800, .int .i64 8801, .int .i64 8722, .int .i64 183, .int .i64 8594, .int .i64 8596, .int .i64 8743, .int .i64 8744, .int .i64 172, .int .i64 8707, .int .i64 8704] 3)) ((w.alloc (.cells #[.int .i64 8804, .int .i64 8805, .int .i64 8800, .int .i64 8801, .int .i64 8722, .int .i64 183, .int .i64 8594, .int .i64 8596, .int .i64 8743, .int .i64 8744, .int .i64 172, .int .i64 8707, .int .i64 8704] 3)).alloc (.cells #[.string ⟨#[60, 61]⟩, .string ⟨#[62, 61]⟩, .string ⟨#[33, 61]⟩, .string ⟨#[126]⟩, .string ⟨#[45]⟩, .string ⟨#[42]⟩, .string ⟨#[45, 62]⟩, .string ⟨#[60, 45, 62]⟩, .string ⟨#[97, 110, 100]⟩, .string ⟨#[111, 114]⟩, .string ⟨#[110, 111, 116]⟩, .string ⟨#[101, 120]⟩, .string ⟨#[97, 108, 108]⟩] 9)) := (Below.refl _ _).alloc (by simp) _
  have hZ : RdZ ((w.alloc (.cells #[.int .i64 8804, .int .i64 8805, .int .i64 8800, .int .i64 8801, .int .i64 8722, .int .i64 183, .int .i64 8594, .int .i64 8596, .int .i64 8743, .int .i64 8744, .int .i64 172, .int .i64 8707, .int .i64 8704] 3)).alloc (.cells #[.string ⟨#[60, 61]⟩, .string ⟨#[62, 61]⟩, .string ⟨#[33, 61]⟩, .string ⟨#[126]⟩, .string ⟨#[45]⟩, .string ⟨#[42]⟩, .string ⟨#[45, 62]⟩, .string ⟨#[60, 45, 62]⟩, .string ⟨#[97, 110, 100]⟩, .string ⟨#[111, 114]⟩, .string ⟨#[110, 111, 116]⟩, .string ⟨#[101, 120]⟩, .string ⟨#[97, 108, 108]⟩] 9)) (some ⟨w.heap.size, 0, none⟩) 13 13 marks := (rdz_built w marks 13 3 w.heap.size rfl rfl (by omega)).below (B := w.heap.size + 1) (by simp) hN
  have hS : RdS ((w.alloc (.cells #[.int .i64 8804, .int .i64 8805, .int .i64 8800, .int .i64 8801, .int .i64 8722, .int .i64 183, .int .i64 8594, .int .i64 8596, .int .i64 8743, .int .i64 8744, .int .i64 172, .int .i64 8707, .int .i64 8704] 3)).alloc (.cells #[.string ⟨#[60, 61]⟩, .string ⟨#[62, 61]⟩, .string ⟨#[33, 61]⟩, .string ⟨#[126]⟩, .string ⟨#[45]⟩, .string ⟨#[42]⟩, .string ⟨#[45, 62]⟩, .string ⟨#[60, 45, 62]⟩, .string ⟨#[97, 110, 100]⟩, .string ⟨#[111, 114]⟩, .string ⟨#[110, 111, 116]⟩, .string ⟨#[101, 120]⟩, .string ⟨#[97, 108, 108]⟩] 9)) (some ⟨w.heap.size + 1, 0, none⟩) 13 13 signs := rds_built (w.alloc (.cells #[.int .i64 8804, .int .i64 8805, .int .i64 8800, .int .i64 8801, .int .i64 8722, .int .i64 183, .int .i64 8594, .int .i64 8596, .int .i64 8743, .int .i64 8744, .int .i64 172, .int .i64 8707, .int .i64 8704] 3)) signs 13 9 (w.heap.size + 1) (by simp) rfl (by omega)
  have hB : Below w.heap.size w ((w.alloc (.cells #[.int .i64 8804, .int .i64 8805, .int .i64 8800, .int .i64 8801, .int .i64 8722, .int .i64 183, .int .i64 8594, .int .i64 8596, .int .i64 8743, .int .i64 8744, .int .i64 172, .int .i64 8707, .int .i64 8704] 3)).alloc (.cells #[.string ⟨#[60, 61]⟩, .string ⟨#[62, 61]⟩, .string ⟨#[33, 61]⟩, .string ⟨#[126]⟩, .string ⟨#[45]⟩, .string ⟨#[42]⟩, .string ⟨#[45, 62]⟩, .string ⟨#[60, 45, 62]⟩, .string ⟨#[97, 110, 100]⟩, .string ⟨#[111, 114]⟩, .string ⟨#[110, 111, 116]⟩, .string ⟨#[101, 120]⟩, .string ⟨#[97, 108, 108]⟩] 9)) := ((Below.refl _ _).alloc (Nat.le_refl _) _).alloc (by simp) _
  have HZ : Hid _ := hZ
  have HS : Hid _ := hS
  clear hZ hS hN
  go_enter Tryz.func66, Tryz.ntmps66
  go_wp2
  go_loop [5] (fun i => ∃ k : Nat, k ≤ 13 ∧ i = .int .i64 k ∧ Hid (plB r = look r (marks.drop k) (signs.drop k))) (fun i => 13 - (intOf i).toNat)
  case atStart => exact ⟨0, Nat.zero_le _, rfl, rfl⟩
  case round =>
    obtain ⟨k, hk, rfl, hinv⟩ := hrel
    by_cases hlt : k < 13
    · obtain ⟨b, off, e, hc⟩ := HZ.out.cell k hlt
      obtain ⟨rfl, rfl⟩ : w.heap.size = b ∧ 0 = off := by simpa using e
      obtain ⟨b', off', e', hc'⟩ := HS.out.cell k hlt
      obtain ⟨rfl, rfl⟩ : w.heap.size + 1 = b' ∧ 0 = off' := by simpa using e'
      rw [Nat.zero_add] at hc hc'
      have HT : Hid (plB r = if marks.getD k 0 = r then signs.getD k emp else look r (marks.drop (k + 1)) (signs.drop (k + 1))) := hinv.out.trans (look_step r marks signs k hlt hlt)
      generalize hx : marks.getD k 0 = x at *
      generalize hy : signs.getD k emp = y at *
      clear hx hy e e' hinv
      by_cases he : x = r
      · have HE : Hid (plB r = y) := by show _ = _; rw [HT.out, if_pos he]
        subst he
        clear HT
        go_wp2
        go_ret
        exact ⟨rets HE.out.symm, hB⟩
      · have HE : Hid (plB r = look r (marks.drop (k + 1)) (signs.drop (k + 1))) := by show _ = _; rw [HT.out, if_neg he]
        have he' : (x == r) = false := by simpa using he
        clear HT
        go_wp2
        go_round
        case rel => exact ⟨k + 1, by omega, by go_num, HE⟩
        case measure => simp [intOf]; omega
    · obtain rfl : k = 13 := by omega
      have HE : Hid (plB r = emp) := hinv.out
      clear hinv
      go_wp2
      go_ret
      exact ⟨rets HE.out.symm, hB⟩
end Go.Proofs.YtabfhdmcljdjhaaGreatDoor.Gl
