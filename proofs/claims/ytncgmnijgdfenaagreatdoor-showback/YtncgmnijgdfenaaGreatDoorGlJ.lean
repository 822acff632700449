/- Slices of integers that read as lists. -/
import Derived.Test.YtncgmnijgdfenaaGreatDoorProg
import Derived.WalkKit
import Derived.WalkLawsBesides
import Derived.WalkSpells
import Derived.Laws.AppendOwnNone
import Derived.Laws.BitsAllLaws
import Derived.Deep.Light
import Derived.OneCell
import Derived.OwnWalk
import Derived.Laws.OwnMore
import Derived.RegionTactic
import Derived.ChangeAlike
import Derived.Deep.QuietTactic
import Derived.BigQuiet
namespace Go.Proofs.YtncgmnijgdfenaaGreatDoor.Gl
open Go.RowKit
set_option linter.unusedVariables false

theorem ret1 {a c : Int} (h : a = c) : Ending.returned (.int .i64 a) = .returned (.int .i64 c) := by rw [h]
theorem retb {a c : Bool} (h : a = c) : Ending.returned (.bool a) = .returned (.bool c) := by rw [h]
theorem getD_of {zs : List Int} {i : Nat} (h : i < zs.length) : zs.getD i 0 = zs[i] := by
  rw [List.getD_eq_getElem?_getD, List.getElem?_eq_getElem h, Option.getD_some]
/-- the slice reads as the numbers zs -/
structure RdZ (w : World) (ao : Option Addr) (len cap : Nat) (zs : List Int) : Prop where
  eqlen : zs.length = len
  lecap : len ≤ cap
  lemax : cap ≤ 9223372036854775807
  isnil : ao = none → cap = 0
  cell : ∀ i, i < len → ∃ b off, ao = some ⟨b, off, none⟩ ∧ w.cell? ⟨b, off + i, none⟩ = some (.int .i64 (zs.getD i 0))
theorem RdZ.below {w w' : World} {ao : Option Addr} {len cap : Nat} {zs : List Int} (h : RdZ w ao len cap zs) {B : Nat} (hB : w.heap.size ≤ B) (hb : Below B w w') : RdZ w' ao len cap zs := by
  refine ⟨h.eqlen, h.lecap, h.lemax, h.isnil, fun i hi => ?_⟩
  obtain ⟨b, off, rfl, hc⟩ := h.cell i hi
  have hlt := World.block_lt_of_cell? _ _ hc
  exact ⟨b, off, rfl, (hb.cell (p := ⟨b, off + i, none⟩) (Nat.lt_of_lt_of_le hlt hB)).trans hc⟩
abbrev cellsZ (zs : List Int) : List Value := zs.map (Value.int .i64)
/-- a row just built reads as its numbers -/
theorem rdz_built (W : World) (zs : List Int) (n : Nat) (t : TypeId) (g : Nat) (hg : W.heap.size = g) (hn : zs.length = n) (hm : n ≤ 9223372036854775807) : RdZ (W.alloc (.cells (cellsZ zs).toArray t)) (some ⟨g, 0, none⟩) n n zs := by
  subst hg
  refine ⟨hn, Nat.le_refl _, hm, (fun h => nomatch h), (fun i hi => ⟨W.heap.size, 0, rfl, ?_⟩)⟩
  rw [Nat.zero_add]
  have hi' : i < zs.length := by omega
  simp [List.getElem?_eq_getElem hi']

/-- is r in one of the ranges? -/
def withinB (r : Int) : List Int → Bool
  | a :: b :: l => (decide (a ≤ r) && decide (r ≤ b)) || withinB r l
  | _ => false
theorem within_step (r : Int) (zs : List Int) (k : Nat) (h : k + 1 < zs.length) : withinB r (zs.drop k) = ((decide (zs.getD k 0 ≤ r) && decide (r ≤ zs.getD (k + 1) 0)) || withinB r (zs.drop (k + 2))) := by
  rw [List.drop_eq_getElem_cons (show k < zs.length by omega), List.drop_eq_getElem_cons (show k + 1 < zs.length by omega), withinB, getD_of (show k < zs.length by omega), getD_of (show k + 1 < zs.length by omega)]
set_option maxHeartbeats 1000000 in
theorem within_at (r : Int) (ao : Option Addr) (m cap : Nat) (zs : List Int) (w : World) (h : RdZ w ao (2 * m) cap zs) (hm : m ≤ 100) :
    Calls Tryz.prog 99 #[.int .i64 r, .slice ao (2 * m) cap] w fun e w' => e = .returned (.bool (withinB r zs)) ∧ w = w' := by
  have hcap := h.lecap
  have hmax := h.lemax
  have HL : Hid (zs.length = 2 * m) := h.eqlen
  go_enter Tryz.func99, Tryz.ntmps99
  go_wp2
  go_loop [5] (fun i => ∃ k : Nat, k ≤ m ∧ i = .int .i64 ((2 * k : Nat) : Int) ∧ Hid (withinB r zs = withinB r (zs.drop (2 * k)))) (fun i => 2 * m + 2 - (intOf i).toNat)
  case atStart => exact ⟨0, Nat.zero_le _, rfl, rfl⟩
  case round =>
    obtain ⟨k, hk, rfl, hinv⟩ := hrel
    by_cases hlt : k < m
    · obtain ⟨b, off, rfl, hc0⟩ := h.cell (2 * k) (by omega)
      obtain ⟨b', off', e', hc1⟩ := h.cell (2 * k + 1) (by omega)
      obtain ⟨rfl, rfl⟩ : b = b' ∧ off = off' := by simpa using e'
      have HS : Hid (withinB r zs = ((decide (zs.getD (2 * k) 0 ≤ r) && decide (r ≤ zs.getD (2 * k + 1) 0)) || withinB r (zs.drop (2 * (k + 1))))) := by
        show _ = _
        rw [hinv.out, within_step r zs (2 * k) (by rw [HL.out]; omega)]; rfl
      clear e' hinv
      generalize hx : zs.getD (2 * k) 0 = x at *
      generalize hy : zs.getD (2 * k + 1) 0 = y at *
      clear hx hy
      obtain ⟨q, hq⟩ : ∃ q, 2 * k = q := ⟨_, rfl⟩
      have HQ : Hid (2 * k = q) := hq
      have hq1 : q + 1 < 2 * m := by omega
      have hq2 : q ≤ 200 := by omega
      rw [hq] at hc0 hc1 ⊢
      clear hq
      by_cases h1 : x ≤ r
      · by_cases h2 : r ≤ y
        · have HE : Hid (withinB r zs = true) := by show _ = _; rw [HS.out]; simp [h1, h2]
          go_wp2
          go_ret
          exact ⟨retb HE.out.symm, rfl⟩
        · have HE : Hid (withinB r zs = withinB r (zs.drop (2 * (k + 1)))) := by show _ = _; rw [HS.out]; simp [h2]
          go_wp2
          go_round
          case rel => exact ⟨k + 1, by omega, congrArg (Value.int .i64) (by have := HQ.out; omega), HE⟩
          case measure => simp [intOf]; omega
      · have HE : Hid (withinB r zs = withinB r (zs.drop (2 * (k + 1)))) := by show _ = _; rw [HS.out]; simp [h1]
        go_wp2
        go_round
        case rel => exact ⟨k + 1, by omega, congrArg (Value.int .i64) (by have := HQ.out; omega), HE⟩
        case measure => simp [intOf]; omega
    · obtain rfl : k = m := by omega
      have HE : Hid (withinB r zs = false) := by
        show _ = _
        rw [hinv.out, List.drop_of_length_le (by rw [HL.out]; exact Nat.le_refl _)]; rfl
      go_wp2
      go_ret
      exact ⟨retb HE.out.symm, rfl⟩
abbrev starts : List Int := [65, 90, 97, 122, 95, 95, 913, 929, 931, 937, 945, 969]
abbrev rests : List Int := [48, 57, 8242, 8242, 8320, 8329]
def stB (r : Int) : Bool := withinB r starts
def reB (r : Int) : Bool := stB r || withinB r rests
theorem rstart_at (r : Int) (w : World) :
    Calls Tryz.prog 83 #[.int .i64 r] w fun e w' => e = .returned (.bool (stB r)) ∧ Below w.heap.size w w' := by
  go_enter Tryz.func83, Tryz.ntmps83
  go_wp2_with (go_at_call 99; refine (within_at r _ 6 _ starts _ (rdz_built w starts 12 _ _ rfl rfl (by omega)) (by omega)).mono ?_; rintro e w' ⟨rfl, rfl⟩)
  go_ret
  exact ⟨rfl, (Below.refl _ _).alloc (Nat.le_refl _) _⟩
end Go.Proofs.YtncgmnijgdfenaaGreatDoor.Gl
/- The document's Rest, Blank, Plain, Reserved. -/
namespace Go.Proofs.YtncgmnijgdfenaaGreatDoor.Gl
open Go.RowKit
set_option linter.unusedVariables false

theorem rrest_at (r : Int) (w : World) :
    Calls Tryz.prog 84 #[.int .i64 r] w fun e w' => e = .returned (.bool (reB r)) ∧ Below w.heap.size w w' := by
  cases hs : stB r with
  | true =>
    have HE : Hid (reB r = true) := by show _ = _; unfold reB; rw [hs]; rfl
    have ST : Hid (∀ w, Calls Tryz.prog 83 #[.int .i64 r] w fun e w' => e = .returned (.bool true) ∧ Below w.heap.size w w') := fun w => by rw [← hs]; exact rstart_at r w
    clear hs
    go_enter Tryz.func84, Tryz.ntmps84
    go_wp2_with (go_at_call 83; refine (ST.out _).mono ?_; rintro e w1 ⟨rfl, hB1⟩)
    go_ret
    exact ⟨retb HE.out.symm, hB1⟩
  | false =>
    have HE : Hid (reB r = withinB r rests) := by show _ = _; unfold reB; rw [hs]; rfl
    have ST : Hid (∀ w, Calls Tryz.prog 83 #[.int .i64 r] w fun e w' => e = .returned (.bool false) ∧ Below w.heap.size w w') := fun w => by rw [← hs]; exact rstart_at r w
    clear hs
    go_enter Tryz.func84, Tryz.ntmps84
    go_wp2_with (first
      | (go_at_call 83; refine (ST.out _).mono ?_; rintro e w1 ⟨rfl, hB1⟩)
      | (go_at_call 99; refine (within_at r _ 3 _ rests _ (rdz_built w1 rests 6 _ _ rfl rfl (by omega)) (by omega)).mono ?_; rintro e w' ⟨rfl, rfl⟩))
    go_ret
    exact ⟨retb HE.out.symm, hB1.alloc hB1.size _⟩
def blB (r : Int) : Bool := decide (r = 32 ∨ r = 9 ∨ r = 10 ∨ r = 13)
abbrev emp : ByteArray := ⟨#[]⟩
/-- the slice reads as the texts ss -/
structure RdS (w : World) (ao : Option Addr) (len cap : Nat) (ss : List ByteArray) : Prop where
  eqlen : ss.length = len
  lecap : len ≤ cap
  lemax : cap ≤ 9223372036854775807
  isnil : ao = none → cap = 0
  cell : ∀ i, i < len → ∃ b off, ao = some ⟨b, off, none⟩ ∧ w.cell? ⟨b, off + i, none⟩ = some (.string (ss.getD i emp))
theorem RdS.below {w w' : World} {ao : Option Addr} {len cap : Nat} {ss : List ByteArray} (h : RdS w ao len cap ss) {B : Nat} (hB : w.heap.size ≤ B) (hb : Below B w w') : RdS w' ao len cap ss := by
  refine ⟨h.eqlen, h.lecap, h.lemax, h.isnil, fun i hi => ?_⟩
  obtain ⟨b, off, rfl, hc⟩ := h.cell i hi
  have hlt := World.block_lt_of_cell? _ _ hc
  exact ⟨b, off, rfl, (hb.cell (p := ⟨b, off + i, none⟩) (Nat.lt_of_lt_of_le hlt hB)).trans hc⟩
abbrev cellsS (ss : List ByteArray) : List Value := ss.map Value.string
theorem sgetD_of {ss : List ByteArray} {i : Nat} (h : i < ss.length) : ss.getD i emp = ss[i] := by
  rw [List.getD_eq_getElem?_getD, List.getElem?_eq_getElem h, Option.getD_some]
theorem rds_built (W : World) (ss : List ByteArray) (n : Nat) (t : TypeId) (g : Nat) (hg : W.heap.size = g) (hn : ss.length = n) (hm : n ≤ 9223372036854775807) : RdS (W.alloc (.cells (cellsS ss).toArray t)) (some ⟨g, 0, none⟩) n n ss := by
  subst hg
  refine ⟨hn, Nat.le_refl _, hm, (fun h => nomatch h), (fun i hi => ⟨W.heap.size, 0, rfl, ?_⟩)⟩
  rw [Nat.zero_add]
  have hi' : i < ss.length := by omega
  simp [List.getElem?_eq_getElem hi']
abbrev words : List ByteArray := [⟨#[97, 110, 100]⟩, ⟨#[111, 114]⟩, ⟨#[110, 111, 116]⟩, ⟨#[101, 120]⟩, ⟨#[97, 108, 108]⟩, ⟨#[109, 111, 100]⟩, ⟨#[116, 114, 117, 101]⟩, ⟨#[102, 97, 108, 115, 101]⟩]
/-- is the text one of these? -/
def anyS (s : ByteArray) : List ByteArray → Bool
  | [] => false
  | x :: l => (x.toList == s.toList) || anyS s l
theorem any_step (s : ByteArray) (ss : List ByteArray) (k : Nat) (h : k < ss.length) : anyS s (ss.drop k) = (((ss.getD k emp).toList == s.toList) || anyS s (ss.drop (k + 1))) := by
  rw [List.drop_eq_getElem_cons h, anyS, sgetD_of h]
def rsB (s : ByteArray) : Bool := anyS s words
set_option maxHeartbeats 1000000 in
theorem rreserved_at (s : ByteArray) (w : World) :
    Calls Tryz.prog 85 #[.string s] w fun e w' => e = .returned (.bool (rsB s)) ∧ Below w.heap.size w w' := by
  have hR : RdS (w.alloc (.cells #[.string ⟨#[97, 110, 100]⟩, .string ⟨#[111, 114]⟩, .string ⟨#[110, 111, 116]⟩, .string ⟨#[101, 120]⟩, .string ⟨#[97, 108, 108]⟩, .string ⟨#[109, 111, 100]⟩, .string ⟨#[116, 114, 117, 101]⟩, .string ⟨#[102, 97, 108, 115, 101]⟩] 9)) (some ⟨w.heap.size, 0, none⟩) 8 8 words := rds_built w words 8 9 w.heap.size rfl rfl (by omega)
  have hB : Below w.heap.size w (w.alloc (.cells #[.string ⟨#[97, 110, 100]⟩, .string ⟨#[111, 114]⟩, .string ⟨#[110, 111, 116]⟩, .string ⟨#[101, 120]⟩, .string ⟨#[97, 108, 108]⟩, .string ⟨#[109, 111, 100]⟩, .string ⟨#[116, 114, 117, 101]⟩, .string ⟨#[102, 97, 108, 115, 101]⟩] 9)) := (Below.refl _ _).alloc (Nat.le_refl _) _
  have HR : Hid _ := hR
  clear hR
  go_enter Tryz.func85, Tryz.ntmps85
  go_wp2
  go_loop [4] (fun i => ∃ k : Nat, k ≤ 8 ∧ i = .int .i64 k ∧ Hid (rsB s = anyS s (words.drop k))) (fun i => 8 - (intOf i).toNat)
  case atStart => exact ⟨0, Nat.zero_le _, rfl, rfl⟩
  case round =>
    obtain ⟨k, hk, rfl, hinv⟩ := hrel
    by_cases hlt : k < 8
    · obtain ⟨b, off, e, hc⟩ := HR.out.cell k hlt
      obtain ⟨rfl, rfl⟩ : w.heap.size = b ∧ 0 = off := by simpa using e
      rw [Nat.zero_add] at hc
      have HS : Hid (rsB s = (((words.getD k emp).toList == s.toList) || anyS s (words.drop (k + 1)))) := hinv.out.trans (any_step s words k hlt)
      generalize hx : words.getD k emp = x at *
      clear hx e hinv
      cases he : (x.toList == s.toList) with
      | true =>
        have HE : Hid (rsB s = true) := by show _ = _; rw [HS.out, he]; rfl
        clear HS
        go_wp2
        go_ret
        exact ⟨retb HE.out.symm, hB⟩
      | false =>
        have HE : Hid (rsB s = anyS s (words.drop (k + 1))) := by show _ = _; rw [HS.out, he]; rfl
        clear HS
        go_wp2
        go_round
        case rel => exact ⟨k + 1, by omega, by go_num, HE⟩
        case measure => simp [intOf]; omega
    · obtain rfl : k = 8 := by omega
      have HE : Hid (rsB s = false) := hinv.out
      clear hinv
      go_wp2
      go_ret
      exact ⟨retb HE.out.symm, hB⟩
abbrev marks : List Int := [8804, 8805, 8800, 8801, 8722, 183, 8594, 8596, 8743, 8744, 172, 8707, 8704]
abbrev signs : List ByteArray := [⟨#[60, 61]⟩, ⟨#[62, 61]⟩, ⟨#[33, 61]⟩, ⟨#[126]⟩, ⟨#[45]⟩, ⟨#[42]⟩, ⟨#[45, 62]⟩, ⟨#[60, 45, 62]⟩, ⟨#[97, 110, 100]⟩, ⟨#[111, 114]⟩, ⟨#[110, 111, 116]⟩, ⟨#[101, 120]⟩, ⟨#[97, 108, 108]⟩]
/-- the text that a mark stands for -/
def look (r : Int) : List Int → List ByteArray → ByteArray
  | m :: ms, x :: xs => if m = r then x else look r ms xs
  | _, _ => emp
def plB (r : Int) : ByteArray := look r marks signs
theorem look_step (r : Int) (ms : List Int) (xs : List ByteArray) (k : Nat) (h : k < ms.length) (h' : k < xs.length) : look r (ms.drop k) (xs.drop k) = if ms.getD k 0 = r then xs.getD k emp else look r (ms.drop (k + 1)) (xs.drop (k + 1)) := by
  rw [List.drop_eq_getElem_cons h, List.drop_eq_getElem_cons h', look, getD_of h, sgetD_of h']
theorem rets {a c : ByteArray} (h : a = c) : Ending.returned (.string a) = .returned (.string c) := by rw [h]
end Go.Proofs.YtncgmnijgdfenaaGreatDoor.Gl
/- The program's characters: isLatin, isGreek, Start, Rest, Blank, Plain, Reserved. -/
namespace Go.Proofs.YtncgmnijgdfenaaGreatDoor.Gl
open Go.RowKit
set_option linter.unusedVariables false

def laB (r : Int) : Bool := decide ((65 ≤ r ∧ r ≤ 90) ∨ (97 ≤ r ∧ r ≤ 122))
def grB (r : Int) : Bool := decide ((913 ≤ r ∧ r ≤ 937 ∧ r ≠ 930) ∨ (945 ≤ r ∧ r ≤ 969))
theorem la_at (r : Int) (w : World) :
    Calls Tryz.prog 89 #[.int .i32 r] w fun e w' => e = .returned (.bool (laB r)) ∧ w = w' := by
  by_cases h1 : r < 65
  · have HE : Hid (laB r = false) := decide_eq_false (by omega)
    have h3 : r < 97 := by omega
    go_enter Tryz.func89, Tryz.ntmps89
    go_wp2
    go_ret
    exact ⟨retb HE.out.symm, rfl⟩
  · have g1 : 65 ≤ r := by omega
    clear h1
    by_cases h2 : r ≤ 90
    · have HE : Hid (laB r = true) := decide_eq_true (by omega)
      go_enter Tryz.func89, Tryz.ntmps89
      go_wp2
      go_ret
      exact ⟨retb HE.out.symm, rfl⟩
    · have g2 : 90 < r := by omega
      have d2 : decide (r ≤ 90) = false := decide_eq_false (by omega)
      clear h2
      by_cases h3 : r < 97
      · have HE : Hid (laB r = false) := decide_eq_false (by omega)
        go_enter Tryz.func89, Tryz.ntmps89
        go_wp2
        go_ret
        exact ⟨retb HE.out.symm, rfl⟩
      · have g3 : 97 ≤ r := by omega
        clear h3
        by_cases h4 : r ≤ 122
        · have HE : Hid (laB r = true) := decide_eq_true (by omega)
          go_enter Tryz.func89, Tryz.ntmps89
          go_wp2
          go_ret
          exact ⟨retb HE.out.symm, rfl⟩
        · have HE : Hid (laB r = false) := decide_eq_false (by omega)
          have g4 : 122 < r := by omega
          have d4 : decide (r ≤ 122) = false := decide_eq_false (by omega)
          clear h4
          go_enter Tryz.func89, Tryz.ntmps89
          go_wp2
          go_ret
          exact ⟨retb HE.out.symm, rfl⟩
theorem gr_at (r : Int) (w : World) :
    Calls Tryz.prog 90 #[.int .i32 r] w fun e w' => e = .returned (.bool (grB r)) ∧ w = w' := by
  by_cases h1 : r < 913
  · have HE : Hid (grB r = false) := decide_eq_false (by omega)
    have h3 : r < 945 := by omega
    go_enter Tryz.func90, Tryz.ntmps90
    go_wp2
    go_ret
    exact ⟨retb HE.out.symm, rfl⟩
  · have g1 : 913 ≤ r := by omega
    clear h1
    by_cases h2 : r ≤ 937
    · by_cases h5 : r = 930
      · have HE : Hid (grB r = false) := decide_eq_false (by omega)
        subst h5
        go_enter Tryz.func90, Tryz.ntmps90
        go_wp2
        go_ret
        exact ⟨retb HE.out.symm, rfl⟩
      · have HE : Hid (grB r = true) := decide_eq_true (by omega)
        have g5 : (r != 930) = true := by simpa using h5
        clear h5
        go_enter Tryz.func90, Tryz.ntmps90
        go_wp2
        go_ret
        exact ⟨retb HE.out.symm, rfl⟩
    · have g2 : 937 < r := by omega
      have d2 : decide (r ≤ 937) = false := decide_eq_false (by omega)
      clear h2
      by_cases h3 : r < 945
      · have HE : Hid (grB r = false) := decide_eq_false (by omega)
        go_enter Tryz.func90, Tryz.ntmps90
        go_wp2
        go_ret
        exact ⟨retb HE.out.symm, rfl⟩
      · have g3 : 945 ≤ r := by omega
        clear h3
        by_cases h4 : r ≤ 969
        · have HE : Hid (grB r = true) := decide_eq_true (by omega)
          go_enter Tryz.func90, Tryz.ntmps90
          go_wp2
          go_ret
          exact ⟨retb HE.out.symm, rfl⟩
        · have HE : Hid (grB r = false) := decide_eq_false (by omega)
          have g4 : 969 < r := by omega
          have d4 : decide (r ≤ 969) = false := decide_eq_false (by omega)
          clear h4
          go_enter Tryz.func90, Tryz.ntmps90
          go_wp2
          go_ret
          exact ⟨retb HE.out.symm, rfl⟩
theorem st_eq (r : Int) : stB r = (laB r || grB r || decide (r = 95)) := by
  unfold stB laB grB
  simp only [withinB]
  rw [Bool.eq_iff_iff]
  simp only [Bool.or_eq_true, Bool.and_eq_true, decide_eq_true_eq, Bool.or_false]
  omega
theorem start_at (r : Int) (w : World) :
    Calls Tryz.prog 70 #[.int .i32 r] w fun e w' => e = .returned (.bool (stB r)) ∧ w = w' := by
  have hst := st_eq r
  have LA : ∀ c, laB r = c → Hid (∀ w, Calls Tryz.prog 89 #[.int .i32 r] w fun e w' => e = .returned (.bool c) ∧ w = w') := fun c h w => by rw [← h]; exact la_at r w
  have GR : ∀ c, grB r = c → Hid (∀ w, Calls Tryz.prog 90 #[.int .i32 r] w fun e w' => e = .returned (.bool c) ∧ w = w') := fun c h w => by rw [← h]; exact gr_at r w
  cases hl : laB r with
  | true =>
    have L0 := LA _ hl
    have HE : Hid (stB r = true) := by show _ = _; rw [hst, hl]; rfl
    clear LA GR hl hst
    go_enter Tryz.func70, Tryz.ntmps70
    go_wp2_with (go_at_call 89; refine (L0.out _).mono ?_; rintro e w1 ⟨rfl, rfl⟩)
    go_ret
    exact ⟨retb HE.out.symm, rfl⟩
  | false =>
    have L0 := LA _ hl
    cases hg : grB r with
    | true =>
      have G0 := GR _ hg
      have HE : Hid (stB r = true) := by show _ = _; rw [hst, hl, hg]; rfl
      clear LA GR hl hst hg
      go_enter Tryz.func70, Tryz.ntmps70
      go_wp2_with (first
        | (go_at_call 89; refine (L0.out _).mono ?_; rintro e w1 ⟨rfl, rfl⟩)
        | (go_at_call 90; refine (G0.out _).mono ?_; rintro e w1 ⟨rfl, rfl⟩))
      go_ret
      exact ⟨retb HE.out.symm, rfl⟩
    | false =>
      have G0 := GR _ hg
      by_cases h95 : r = 95
      · have HE : Hid (stB r = true) := by show _ = _; rw [hst, hl, hg, decide_eq_true h95]; rfl
        have g95 : (r == 95) = true := by simpa using h95
        clear LA GR hl hst hg h95
        go_enter Tryz.func70, Tryz.ntmps70
        go_wp2_with (first
          | (go_at_call 89; refine (L0.out _).mono ?_; rintro e w1 ⟨rfl, rfl⟩)
          | (go_at_call 90; refine (G0.out _).mono ?_; rintro e w1 ⟨rfl, rfl⟩))
        go_ret
        exact ⟨retb HE.out.symm, rfl⟩
      · have HE : Hid (stB r = false) := by show _ = _; rw [hst, hl, hg, decide_eq_false h95]; rfl
        have g95 : (r == 95) = false := by simpa using h95
        clear LA GR hl hst hg h95
        go_enter Tryz.func70, Tryz.ntmps70
        go_wp2_with (first
          | (go_at_call 89; refine (L0.out _).mono ?_; rintro e w1 ⟨rfl, rfl⟩)
          | (go_at_call 90; refine (G0.out _).mono ?_; rintro e w1 ⟨rfl, rfl⟩))
        go_ret
        exact ⟨retb HE.out.symm, rfl⟩
theorem re_eq (r : Int) : reB r = (stB r || decide ((48 ≤ r ∧ r ≤ 57) ∨ r = 8242 ∨ (8320 ≤ r ∧ r ≤ 8329))) := by
  unfold reB
  simp only [withinB]
  congr 1
  rw [Bool.eq_iff_iff]
  simp only [Bool.or_eq_true, Bool.and_eq_true, decide_eq_true_eq, Bool.or_false]
  omega
set_option maxHeartbeats 1000000 in
theorem rest_at (r : Int) (w : World) :
    Calls Tryz.prog 72 #[.int .i32 r] w fun e w' => e = .returned (.bool (reB r)) ∧ w = w' := by
  have hre := re_eq r
  have ST : ∀ c, stB r = c → Hid (∀ w, Calls Tryz.prog 70 #[.int .i32 r] w fun e w' => e = .returned (.bool c) ∧ w = w') := fun c h w => by rw [← h]; exact start_at r w
  cases hs : stB r with
  | true =>
    have S0 := ST _ hs
    have HE : Hid (reB r = true) := by show _ = _; rw [hre, hs]; rfl
    clear ST hs hre
    go_enter Tryz.func72, Tryz.ntmps72
    go_wp2_with (go_at_call 70; refine (S0.out _).mono ?_; rintro e w1 ⟨rfl, rfl⟩)
    go_ret
    exact ⟨retb HE.out.symm, rfl⟩
  | false =>
    have S0 := ST _ hs
    rw [hs, Bool.false_or] at hre
    have HR : Hid (reB r = decide ((48 ≤ r ∧ r ≤ 57) ∨ r = 8242 ∨ (8320 ≤ r ∧ r ≤ 8329))) := hre
    clear ST hs hre
    by_cases h1 : r < 48
    · have HE : Hid (reB r = false) := HR.out.trans (decide_eq_false (by omega))
      have g1 : (r == 8242) = false := by simp; omega
      have g2 : r < 8320 := by omega
      go_enter Tryz.func72, Tryz.ntmps72
      go_wp2_with (go_at_call 70; refine (S0.out _).mono ?_; rintro e w1 ⟨rfl, rfl⟩)
      go_ret
      exact ⟨retb HE.out.symm, rfl⟩
    · have g1 : 48 ≤ r := by omega
      clear h1
      by_cases h2 : r ≤ 57
      · have HE : Hid (reB r = true) := HR.out.trans (decide_eq_true (by omega))
        go_enter Tryz.func72, Tryz.ntmps72
        go_wp2_with (go_at_call 70; refine (S0.out _).mono ?_; rintro e w1 ⟨rfl, rfl⟩)
        go_ret
        exact ⟨retb HE.out.symm, rfl⟩
      · have g2 : 57 < r := by omega
        have d2 : decide (r ≤ 57) = false := decide_eq_false (by omega)
        clear h2
        by_cases h3 : r = 8242
        · have HE : Hid (reB r = true) := HR.out.trans (decide_eq_true (by omega))
          have g3 : (r == 8242) = true := by simpa using h3
          clear h3
          go_enter Tryz.func72, Tryz.ntmps72
          go_wp2_with (go_at_call 70; refine (S0.out _).mono ?_; rintro e w1 ⟨rfl, rfl⟩)
          go_ret
          exact ⟨retb HE.out.symm, rfl⟩
        · have g3 : (r == 8242) = false := by simpa using h3
          by_cases h4 : r < 8320
          · have HE : Hid (reB r = false) := HR.out.trans (decide_eq_false (by omega))
            clear h3
            go_enter Tryz.func72, Tryz.ntmps72
            go_wp2_with (go_at_call 70; refine (S0.out _).mono ?_; rintro e w1 ⟨rfl, rfl⟩)
            go_ret
            exact ⟨retb HE.out.symm, rfl⟩
          · have g4 : 8320 ≤ r := by omega
            clear h4
            by_cases h5 : r ≤ 8329
            · have HE : Hid (reB r = true) := HR.out.trans (decide_eq_true (by omega))
              clear h3
              go_enter Tryz.func72, Tryz.ntmps72
              go_wp2_with (go_at_call 70; refine (S0.out _).mono ?_; rintro e w1 ⟨rfl, rfl⟩)
              go_ret
              exact ⟨retb HE.out.symm, rfl⟩
            · have HE : Hid (reB r = false) := HR.out.trans (decide_eq_false (by omega))
              have g5 : 8329 < r := by omega
              have d5 : decide (r ≤ 8329) = false := decide_eq_false (by omega)
              clear h3 h5
              go_enter Tryz.func72, Tryz.ntmps72
              go_wp2_with (go_at_call 70; refine (S0.out _).mono ?_; rintro e w1 ⟨rfl, rfl⟩)
              go_ret
              exact ⟨retb HE.out.symm, rfl⟩
theorem blank_at (r : Int) (w : World) :
    Calls Tryz.prog 54 #[.int .i32 r] w fun e w' => e = .returned (.bool (blB r)) ∧ w = w' := by
  by_cases h : r = 32 ∨ r = 9 ∨ r = 10 ∨ r = 13
  · have HE : Hid (blB r = true) := decide_eq_true h
    rcases h with rfl | rfl | rfl | rfl
    all_goals
      go_enter Tryz.func54, Tryz.ntmps54
      go_wp2
      go_ret
      exact ⟨retb HE.out.symm, rfl⟩
  · have HE : Hid (blB r = false) := decide_eq_false h
    have h1 : (r == 32) = false := by simp; omega
    have h2 : (r == 9) = false := by simp; omega
    have h3 : (r == 10) = false := by simp; omega
    have h4 : (r == 13) = false := by simp; omega
    clear h
    go_enter Tryz.func54, Tryz.ntmps54
    go_wp2
    go_ret
    exact ⟨retb HE.out.symm, rfl⟩
theorem pl_none (r : Int) (h : ∀ m ∈ marks, m ≠ r) : plB r = emp := by
  unfold plB
  have key : ∀ (ms : List Int) (xs : List ByteArray), (∀ m ∈ ms, m ≠ r) → look r ms xs = emp := by
    intro ms
    induction ms with
    | nil => intro xs _; rfl
    | cons m ms ih =>
      intro xs h
      cases xs with
      | nil => rfl
      | cons x xs =>
        rw [look, if_neg (h m (List.mem_cons_self ..))]
        exact ih xs (fun y hy => h y (List.mem_cons_of_mem _ hy))
  exact key _ _ h
set_option maxHeartbeats 1000000 in
theorem plain_at (r : Int) (w : World) :
    Calls Tryz.prog 76 #[.int .i32 r] w fun e w' => e = .returned (.string (plB r)) ∧ w = w' := by
  by_cases h : ∃ m ∈ marks, m = r
  · obtain ⟨m, hm, rfl⟩ := h
    simp only [marks, List.mem_cons, List.not_mem_nil, or_false] at hm
    rcases hm with rfl | rfl | rfl | rfl | rfl | rfl | rfl | rfl | rfl | rfl | rfl | rfl | rfl
    all_goals
      go_enter Tryz.func76, Tryz.ntmps76
      go_wp2
      go_ret
      exact ⟨rets (by rfl), rfl⟩
  · have HE : Hid (plB r = emp) := pl_none r (fun m hm e => h ⟨m, hm, e⟩)
    have hn : ∀ m ∈ marks, (r == m) = false := fun m hm => by
      cases hq : (r == m) with
      | false => rfl
      | true => exact absurd ⟨m, hm, (beq_iff_eq.1 hq).symm⟩ h
    have e1 := hn 8804 (by decide)
    have e2 := hn 8805 (by decide)
    have e3 := hn 8800 (by decide)
    have e4 := hn 8801 (by decide)
    have e5 := hn 8722 (by decide)
    have e6 := hn 183 (by decide)
    have e7 := hn 8594 (by decide)
    have e8 := hn 8596 (by decide)
    have e9 := hn 8743 (by decide)
    have e10 := hn 8744 (by decide)
    have e11 := hn 172 (by decide)
    have e12 := hn 8707 (by decide)
    have e13 := hn 8704 (by decide)
    clear h hn
    go_enter Tryz.func76, Tryz.ntmps76
    go_wp2
    go_ret
    exact ⟨rets HE.out.symm, rfl⟩
abbrev wordsL : List (List UInt8) := [[97, 110, 100], [111, 114], [110, 111, 116], [101, 120], [97, 108, 108], [109, 111, 100], [116, 114, 117, 101], [102, 97, 108, 115, 101]]
theorem words_eq : words.map ByteArray.toList = wordsL := by decide +kernel
theorem rs_eq (s : ByteArray) : rsB s = wordsL.any (fun x => s.toList == x) := by
  unfold rsB
  rw [← words_eq]
  have key : ∀ l : List ByteArray, anyS s l = (l.map ByteArray.toList).any (fun x => s.toList == x) := by
    intro l
    induction l with
    | nil => rfl
    | cons x l ih => rw [anyS, List.map_cons, List.any_cons, ih]; congr 1; rw [Bool.eq_iff_iff, beq_iff_eq, beq_iff_eq]; exact eq_comm
  exact key _
set_option maxHeartbeats 1000000 in
theorem reserved_at (s : ByteArray) (w : World) :
    Calls Tryz.prog 92 #[.string s] w fun e w' => e = .returned (.bool (rsB s)) ∧ w = w' := by
  have hr := rs_eq s
  simp only [wordsL, List.any_cons, List.any_nil, Bool.or_false] at hr
  have HR : Hid _ := hr
  clear hr
  cases e1 : (s.toList == ([97, 110, 100] : List UInt8)) with
  | true =>
    have HE : Hid (rsB s = true) := by show _ = _; rw [HR.out, e1]; rfl
    clear HR
    go_enter Tryz.func92, Tryz.ntmps92
    go_wp2
    go_ret
    exact ⟨retb HE.out.symm, rfl⟩
  | false =>
    cases e2 : (s.toList == ([111, 114] : List UInt8)) with
    | true =>
      have HE : Hid (rsB s = true) := by show _ = _; rw [HR.out, e1, e2]; rfl
      clear HR
      go_enter Tryz.func92, Tryz.ntmps92
      go_wp2
      go_ret
      exact ⟨retb HE.out.symm, rfl⟩
    | false =>
      cases e3 : (s.toList == ([110, 111, 116] : List UInt8)) with
      | true =>
        have HE : Hid (rsB s = true) := by show _ = _; rw [HR.out, e1, e2, e3]; rfl
        clear HR
        go_enter Tryz.func92, Tryz.ntmps92
        go_wp2
        go_ret
        exact ⟨retb HE.out.symm, rfl⟩
      | false =>
        cases e4 : (s.toList == ([101, 120] : List UInt8)) with
        | true =>
          have HE : Hid (rsB s = true) := by show _ = _; rw [HR.out, e1, e2, e3, e4]; rfl
          clear HR
          go_enter Tryz.func92, Tryz.ntmps92
          go_wp2
          go_ret
          exact ⟨retb HE.out.symm, rfl⟩
        | false =>
          cases e5 : (s.toList == ([97, 108, 108] : List UInt8)) with
          | true =>
            have HE : Hid (rsB s = true) := by show _ = _; rw [HR.out, e1, e2, e3, e4, e5]; rfl
            clear HR
            go_enter Tryz.func92, Tryz.ntmps92
            go_wp2
            go_ret
            exact ⟨retb HE.out.symm, rfl⟩
          | false =>
            cases e6 : (s.toList == ([109, 111, 100] : List UInt8)) with
            | true =>
              have HE : Hid (rsB s = true) := by show _ = _; rw [HR.out, e1, e2, e3, e4, e5, e6]; rfl
              clear HR
              go_enter Tryz.func92, Tryz.ntmps92
              go_wp2
              go_ret
              exact ⟨retb HE.out.symm, rfl⟩
            | false =>
              cases e7 : (s.toList == ([116, 114, 117, 101] : List UInt8)) with
              | true =>
                have HE : Hid (rsB s = true) := by show _ = _; rw [HR.out, e1, e2, e3, e4, e5, e6, e7]; rfl
                clear HR
                go_enter Tryz.func92, Tryz.ntmps92
                go_wp2
                go_ret
                exact ⟨retb HE.out.symm, rfl⟩
              | false =>
                cases e8 : (s.toList == ([102, 97, 108, 115, 101] : List UInt8)) with
                | true =>
                  have HE : Hid (rsB s = true) := by show _ = _; rw [HR.out, e1, e2, e3, e4, e5, e6, e7, e8]; rfl
                  clear HR
                  go_enter Tryz.func92, Tryz.ntmps92
                  go_wp2
                  go_ret
                  exact ⟨retb HE.out.symm, rfl⟩
                | false =>
                  have HE : Hid (rsB s = false) := by show _ = _; rw [HR.out, e1, e2, e3, e4, e5, e6, e7, e8]; rfl
                  clear HR
                  go_enter Tryz.func92, Tryz.ntmps92
                  go_wp2
                  go_ret
                  exact ⟨retb HE.out.symm, rfl⟩
end Go.Proofs.YtncgmnijgdfenaaGreatDoor.Gl
