/- Slices of integers that read as lists. -/
import Derived.Test.YtncgmnijgdfenaaDoorProg
import Derived.WalkKit
import Derived.WalkLawsBesides
import Derived.WalkSpells
import Derived.Laws.AppendOwnNone
import Derived.Laws.BitsAllLaws
import Derived.Deep.Light
import Derived.OneCell
import Derived.OwnWalk
import Derived.Laws.OwnMore
import Derived.RegionTactic
import Derived.ChangeAlike
import Derived.Deep.QuietTactic
import Derived.BigQuiet
import Derived.RowKit
namespace Go.Proofs.YtncgmnijgdfenaaDoor.Gl
open Go.RowKit
set_option linter.unusedVariables false

theorem ret1 {a c : Int} (h : a = c) : Ending.returned (.int .i64 a) = .returned (.int .i64 c) := by rw [h]
theorem retb {a c : Bool} (h : a = c) : Ending.returned (.bool a) = .returned (.bool c) := by rw [h]
theorem getD_of {zs : List Int} {i : Nat} (h : i < zs.length) : zs.getD i 0 = zs[i] := by
  rw [List.getD_eq_getElem?_getD, List.getElem?_eq_getElem h, Option.getD_some]
/-- the slice reads as the numbers zs -/
structure RdZ (w : World) (ao : Option Addr) (len cap : Nat) (zs : List Int) : Prop where
  eqlen : zs.length = len
  lecap : len ≤ cap
  lemax : cap ≤ 9223372036854775807
  isnil : ao = none → cap = 0
  cell : ∀ i, i < len → ∃ b off, ao = some ⟨b, off, none⟩ ∧ w.cell? ⟨b, off + i, none⟩ = some (.int .i64 (zs.getD i 0))
theorem RdZ.below {w w' : World} {ao : Option Addr} {len cap : Nat} {zs : List Int} (h : RdZ w ao len cap zs) {B : Nat} (hB : w.heap.size ≤ B) (hb : Below B w w') : RdZ w' ao len cap zs := by
  refine ⟨h.eqlen, h.lecap, h.lemax, h.isnil, fun i hi => ?_⟩
  obtain ⟨b, off, rfl, hc⟩ := h.cell i hi
  have hlt := World.block_lt_of_cell? _ _ hc
  exact ⟨b, off, rfl, (hb.cell (p := ⟨b, off + i, none⟩) (Nat.lt_of_lt_of_le hlt hB)).trans hc⟩
abbrev cellsZ (zs : List Int) : List Value := zs.map (Value.int .i64)
/-- a row just built reads as its numbers -/
theorem rdz_built (W : World) (zs : List Int) (n : Nat) (t : TypeId) (g : Nat) (hg : W.heap.size = g) (hn : zs.length = n) (hm : n ≤ 9223372036854775807) : RdZ (W.alloc (.cells (cellsZ zs).toArray t)) (some ⟨g, 0, none⟩) n n zs := by
  subst hg
  refine ⟨hn, Nat.le_refl _, hm, (fun h => nomatch h), (fun i hi => ⟨W.heap.size, 0, rfl, ?_⟩)⟩
  rw [Nat.zero_add]
  have hi' : i < zs.length := by omega
  simp [List.getElem?_eq_getElem hi']

/-- is r in one of the ranges? -/
def withinB (r : Int) : List Int → Bool
  | a :: b :: l => (decide (a ≤ r) && decide (r ≤ b)) || withinB r l
  | _ => false
theorem within_step (r : Int) (zs : List Int) (k : Nat) (h : k + 1 < zs.length) : withinB r (zs.drop k) = ((decide (zs.getD k 0 ≤ r) && decide (r ≤ zs.getD (k + 1) 0)) || withinB r (zs.drop (k + 2))) := by
  rw [List.drop_eq_getElem_cons (show k < zs.length by omega), List.drop_eq_getElem_cons (show k + 1 < zs.length by omega), withinB, getD_of (show k < zs.length by omega), getD_of (show k + 1 < zs.length by omega)]
set_option maxHeartbeats 1000000 in
theorem within_at (r : Int) (ao : Option Addr) (m cap : Nat) (zs : List Int) (w : World) (h : RdZ w ao (2 * m) cap zs) (hm : m ≤ 100) :
    Calls Tryd.prog 60 #[.int .i64 r, .slice ao (2 * m) cap] w fun e w' => e = .returned (.bool (withinB r zs)) ∧ w = w' := by
  have hcap := h.lecap
  have hmax := h.lemax
  have HL : Hid (zs.length = 2 * m) := h.eqlen
  go_enter Tryd.func60, Tryd.ntmps60
  go_wp2
  go_loop [5] (fun i => ∃ k : Nat, k ≤ m ∧ i = .int .i64 ((2 * k : Nat) : Int) ∧ Hid (withinB r zs = withinB r (zs.drop (2 * k)))) (fun i => 2 * m + 2 - (intOf i).toNat)
  case atStart => exact ⟨0, Nat.zero_le _, rfl, rfl⟩
  case round =>
    obtain ⟨k, hk, rfl, hinv⟩ := hrel
    by_cases hlt : k < m
    · obtain ⟨b, off, rfl, hc0⟩ := h.cell (2 * k) (by omega)
      obtain ⟨b', off', e', hc1⟩ := h.cell (2 * k + 1) (by omega)
      obtain ⟨rfl, rfl⟩ : b = b' ∧ off = off' := by simpa using e'
      have HS : Hid (withinB r zs = ((decide (zs.getD (2 * k) 0 ≤ r) && decide (r ≤ zs.getD (2 * k + 1) 0)) || withinB r (zs.drop (2 * (k + 1))))) := by
        show _ = _
        rw [hinv.out, within_step r zs (2 * k) (by rw [HL.out]; omega)]; rfl
      clear e' hinv
      generalize hx : zs.getD (2 * k) 0 = x at *
      generalize hy : zs.getD (2 * k + 1) 0 = y at *
      clear hx hy
      obtain ⟨q, hq⟩ : ∃ q, 2 * k = q := ⟨_, rfl⟩
      have HQ : Hid (2 * k = q) := hq
      have hq1 : q + 1 < 2 * m := by omega
      have hq2 : q ≤ 200 := by omega
      rw [hq] at hc0 hc1 ⊢
      clear hq
      by_cases h1 : x ≤ r
      · by_cases h2 : r ≤ y
        · have HE : Hid (withinB r zs = true) := by show _ = _; rw [HS.out]; simp [h1, h2]
          go_wp2
          go_ret
          exact ⟨retb HE.out.symm, rfl⟩
        · have HE : Hid (withinB r zs = withinB r (zs.drop (2 * (k + 1)))) := by show _ = _; rw [HS.out]; simp [h2]
          go_wp2
          go_round
          case rel => exact ⟨k + 1, by omega, congrArg (Value.int .i64) (by have := HQ.out; omega), HE⟩
          case measure => simp [intOf]; omega
      · have HE : Hid (withinB r zs = withinB r (zs.drop (2 * (k + 1)))) := by show _ = _; rw [HS.out]; simp [h1]
        go_wp2
        go_round
        case rel => exact ⟨k + 1, by omega, congrArg (Value.int .i64) (by have := HQ.out; omega), HE⟩
        case measure => simp [intOf]; omega
    · obtain rfl : k = m := by omega
      have HE : Hid (withinB r zs = false) := by
        show _ = _
        rw [hinv.out, List.drop_of_length_le (by rw [HL.out]; exact Nat.le_refl _)]; rfl
      go_wp2
      go_ret
      exact ⟨retb HE.out.symm, rfl⟩
abbrev starts : List Int := [65, 90, 97, 122, 95, 95, 913, 929, 931, 937, 945, 969]
abbrev rests : List Int := [48, 57, 8242, 8242, 8320, 8329]
def stB (r : Int) : Bool := withinB r starts
def reB (r : Int) : Bool := stB r || withinB r rests
theorem rstart_at (r : Int) (w : World) :
    Calls Tryd.prog 51 #[.int .i64 r] w fun e w' => e = .returned (.bool (stB r)) ∧ Below w.heap.size w w' := by
  go_enter Tryd.func51, Tryd.ntmps51
  go_wp2_with (go_at_call 60; refine (within_at r _ 6 _ starts _ (rdz_built w starts 12 _ _ rfl rfl (by omega)) (by omega)).mono ?_; rintro e w' ⟨rfl, rfl⟩)
  go_ret
  exact ⟨rfl, (Below.refl _ _).alloc (Nat.le_refl _) _⟩
end Go.Proofs.YtncgmnijgdfenaaDoor.Gl
/- The document's Rest, Blank, Plain, Reserved. -/
namespace Go.Proofs.YtncgmnijgdfenaaDoor.Gl
open Go.RowKit
set_option linter.unusedVariables false

theorem rrest_at (r : Int) (w : World) :
    Calls Tryd.prog 52 #[.int .i64 r] w fun e w' => e = .returned (.bool (reB r)) ∧ Below w.heap.size w w' := by
  cases hs : stB r with
  | true =>
    have HE : Hid (reB r = true) := by show _ = _; unfold reB; rw [hs]; rfl
    have ST : Hid (∀ w, Calls Tryd.prog 51 #[.int .i64 r] w fun e w' => e = .returned (.bool true) ∧ Below w.heap.size w w') := fun w => by rw [← hs]; exact rstart_at r w
    clear hs
    go_enter Tryd.func52, Tryd.ntmps52
    go_wp2_with (go_at_call 51; refine (ST.out _).mono ?_; rintro e w1 ⟨rfl, hB1⟩)
    go_ret
    exact ⟨retb HE.out.symm, hB1⟩
  | false =>
    have HE : Hid (reB r = withinB r rests) := by show _ = _; unfold reB; rw [hs]; rfl
    have ST : Hid (∀ w, Calls Tryd.prog 51 #[.int .i64 r] w fun e w' => e = .returned (.bool false) ∧ Below w.heap.size w w') := fun w => by rw [← hs]; exact rstart_at r w
    clear hs
    go_enter Tryd.func52, Tryd.ntmps52
    go_wp2_with (first
      | (go_at_call 51; refine (ST.out _).mono ?_; rintro e w1 ⟨rfl, hB1⟩)
      | (go_at_call 60; refine (within_at r _ 3 _ rests _ (rdz_built w1 rests 6 _ _ rfl rfl (by omega)) (by omega)).mono ?_; rintro e w' ⟨rfl, rfl⟩))
    go_ret
    exact ⟨retb HE.out.symm, hB1.alloc hB1.size _⟩
def blB (r : Int) : Bool := decide (r = 32 ∨ r = 9 ∨ r = 10 ∨ r = 13)
abbrev emp : ByteArray := ⟨#[]⟩
/-- the slice reads as the texts ss -/
structure RdS (w : World) (ao : Option Addr) (len cap : Nat) (ss : List ByteArray) : Prop where
  eqlen : ss.length = len
  lecap : len ≤ cap
  lemax : cap ≤ 9223372036854775807
  isnil : ao = none → cap = 0
  cell : ∀ i, i < len → ∃ b off, ao = some ⟨b, off, none⟩ ∧ w.cell? ⟨b, off + i, none⟩ = some (.string (ss.getD i emp))
theorem RdS.below {w w' : World} {ao : Option Addr} {len cap : Nat} {ss : List ByteArray} (h : RdS w ao len cap ss) {B : Nat} (hB : w.heap.size ≤ B) (hb : Below B w w') : RdS w' ao len cap ss := by
  refine ⟨h.eqlen, h.lecap, h.lemax, h.isnil, fun i hi => ?_⟩
  obtain ⟨b, off, rfl, hc⟩ := h.cell i hi
  have hlt := World.block_lt_of_cell? _ _ hc
  exact ⟨b, off, rfl, (hb.cell (p := ⟨b, off + i, none⟩) (Nat.lt_of_lt_of_le hlt hB)).trans hc⟩
abbrev cellsS (ss : List ByteArray) : List Value := ss.map Value.string
theorem sgetD_of {ss : List ByteArray} {i : Nat} (h : i < ss.length) : ss.getD i emp = ss[i] := by
  rw [List.getD_eq_getElem?_getD, List.getElem?_eq_getElem h, Option.getD_some]
theorem rds_built (W : World) (ss : List ByteArray) (n : Nat) (t : TypeId) (g : Nat) (hg : W.heap.size = g) (hn : ss.length = n) (hm : n ≤ 9223372036854775807) : RdS (W.alloc (.cells (cellsS ss).toArray t)) (some ⟨g, 0, none⟩) n n ss := by
  subst hg
  refine ⟨hn, Nat.le_refl _, hm, (fun h => nomatch h), (fun i hi => ⟨W.heap.size, 0, rfl, ?_⟩)⟩
  rw [Nat.zero_add]
  have hi' : i < ss.length := by omega
  simp [List.getElem?_eq_getElem hi']
abbrev words : List ByteArray := [⟨#[97, 110, 100]⟩, ⟨#[111, 114]⟩, ⟨#[110, 111, 116]⟩, ⟨#[101, 120]⟩, ⟨#[97, 108, 108]⟩, ⟨#[109, 111, 100]⟩, ⟨#[116, 114, 117, 101]⟩, ⟨#[102, 97, 108, 115, 101]⟩]
/-- is the text one of these? -/
def anyS (s : ByteArray) : List ByteArray → Bool
  | [] => false
  | x :: l => (x.toList == s.toList) || anyS s l
theorem any_step (s : ByteArray) (ss : List ByteArray) (k : Nat) (h : k < ss.length) : anyS s (ss.drop k) = (((ss.getD k emp).toList == s.toList) || anyS s (ss.drop (k + 1))) := by
  rw [List.drop_eq_getElem_cons h, anyS, sgetD_of h]
def rsB (s : ByteArray) : Bool := anyS s words
set_option maxHeartbeats 1000000 in
theorem rreserved_at (s : ByteArray) (w : World) :
    Calls Tryd.prog 53 #[.string s] w fun e w' => e = .returned (.bool (rsB s)) ∧ Below w.heap.size w w' := by
  have hR : RdS (w.alloc (.cells #[.string ⟨#[97, 110, 100]⟩, .string ⟨#[111, 114]⟩, .string ⟨#[110, 111, 116]⟩, .string ⟨#[101, 120]⟩, .string ⟨#[97, 108, 108]⟩, .string ⟨#[109, 111, 100]⟩, .string ⟨#[116, 114, 117, 101]⟩, .string ⟨#[102, 97, 108, 115, 101]⟩] 9)) (some ⟨w.heap.size, 0, none⟩) 8 8 words := rds_built w words 8 9 w.heap.size rfl rfl (by omega)
  have hB : Below w.heap.size w (w.alloc (.cells #[.string ⟨#[97, 110, 100]⟩, .string ⟨#[111, 114]⟩, .string ⟨#[110, 111, 116]⟩, .string ⟨#[101, 120]⟩, .string ⟨#[97, 108, 108]⟩, .string ⟨#[109, 111, 100]⟩, .string ⟨#[116, 114, 117, 101]⟩, .string ⟨#[102, 97, 108, 115, 101]⟩] 9)) := (Below.refl _ _).alloc (Nat.le_refl _) _
  have HR : Hid _ := hR
  clear hR
  go_enter Tryd.func53, Tryd.ntmps53
  go_wp2
  go_loop [4] (fun i => ∃ k : Nat, k ≤ 8 ∧ i = .int .i64 k ∧ Hid (rsB s = anyS s (words.drop k))) (fun i => 8 - (intOf i).toNat)
  case atStart => exact ⟨0, Nat.zero_le _, rfl, rfl⟩
  case round =>
    obtain ⟨k, hk, rfl, hinv⟩ := hrel
    by_cases hlt : k < 8
    · obtain ⟨b, off, e, hc⟩ := HR.out.cell k hlt
      obtain ⟨rfl, rfl⟩ : w.heap.size = b ∧ 0 = off := by simpa using e
      rw [Nat.zero_add] at hc
      have HS : Hid (rsB s = (((words.getD k emp).toList == s.toList) || anyS s (words.drop (k + 1)))) := hinv.out.trans (any_step s words k hlt)
      generalize hx : words.getD k emp = x at *
      clear hx e hinv
      cases he : (x.toList == s.toList) with
      | true =>
        have HE : Hid (rsB s = true) := by show _ = _; rw [HS.out, he]; rfl
        clear HS
        go_wp2
        go_ret
        exact ⟨retb HE.out.symm, hB⟩
      | false =>
        have HE : Hid (rsB s = anyS s (words.drop (k + 1))) := by show _ = _; rw [HS.out, he]; rfl
        clear HS
        go_wp2
        go_round
        case rel => exact ⟨k + 1, by omega, by go_num, HE⟩
        case measure => simp [intOf]; omega
    · obtain rfl : k = 8 := by omega
      have HE : Hid (rsB s = false) := hinv.out
      clear hinv
      go_wp2
      go_ret
      exact ⟨retb HE.out.symm, hB⟩
abbrev marks : List Int := [8804, 8805, 8800, 8801, 8722, 183, 8594, 8596, 8743, 8744, 172, 8707, 8704]
abbrev signs : List ByteArray := [⟨#[60, 61]⟩, ⟨#[62, 61]⟩, ⟨#[33, 61]⟩, ⟨#[126]⟩, ⟨#[45]⟩, ⟨#[42]⟩, ⟨#[45, 62]⟩, ⟨#[60, 45, 62]⟩, ⟨#[97, 110, 100]⟩, ⟨#[111, 114]⟩, ⟨#[110, 111, 116]⟩, ⟨#[101, 120]⟩, ⟨#[97, 108, 108]⟩]
/-- the text that a mark stands for -/
def look (r : Int) : List Int → List ByteArray → ByteArray
  | m :: ms, x :: xs => if m = r then x else look r ms xs
  | _, _ => emp
def plB (r : Int) : ByteArray := look r marks signs
theorem look_step (r : Int) (ms : List Int) (xs : List ByteArray) (k : Nat) (h : k < ms.length) (h' : k < xs.length) : look r (ms.drop k) (xs.drop k) = if ms.getD k 0 = r then xs.getD k emp else look r (ms.drop (k + 1)) (xs.drop (k + 1)) := by
  rw [List.drop_eq_getElem_cons h, List.drop_eq_getElem_cons h', look, getD_of h, sgetD_of h']
theorem rets {a c : ByteArray} (h : a = c) : Ending.returned (.string a) = .returned (.string c) := by rw [h]
end Go.Proofs.YtncgmnijgdfenaaDoor.Gl
/- The program's characters: isLatin, isGreek, Start, Rest, Blank, Plain, Reserved. -/
namespace Go.Proofs.YtncgmnijgdfenaaDoor.Gl
open Go.RowKit
set_option linter.unusedVariables false

def laB (r : Int) : Bool := decide ((65 ≤ r ∧ r ≤ 90) ∨ (97 ≤ r ∧ r ≤ 122))
def grB (r : Int) : Bool := decide ((913 ≤ r ∧ r ≤ 937 ∧ r ≠ 930) ∨ (945 ≤ r ∧ r ≤ 969))
theorem la_at (r : Int) (w : World) :
    Calls Tryd.prog 69 #[.int .i32 r] w fun e w' => e = .returned (.bool (laB r)) ∧ w = w' := by
  by_cases h1 : r < 65
  · have HE : Hid (laB r = false) := decide_eq_false (by omega)
    have h3 : r < 97 := by omega
    go_enter Tryd.func69, Tryd.ntmps69
    go_wp2
    go_ret
    exact ⟨retb HE.out.symm, rfl⟩
  · have g1 : 65 ≤ r := by omega
    clear h1
    by_cases h2 : r ≤ 90
    · have HE : Hid (laB r = true) := decide_eq_true (by omega)
      go_enter Tryd.func69, Tryd.ntmps69
      go_wp2
      go_ret
      exact ⟨retb HE.out.symm, rfl⟩
    · have g2 : 90 < r := by omega
      have d2 : decide (r ≤ 90) = false := decide_eq_false (by omega)
      clear h2
      by_cases h3 : r < 97
      · have HE : Hid (laB r = false) := decide_eq_false (by omega)
        go_enter Tryd.func69, Tryd.ntmps69
        go_wp2
        go_ret
        exact ⟨retb HE.out.symm, rfl⟩
      · have g3 : 97 ≤ r := by omega
        clear h3
        by_cases h4 : r ≤ 122
        · have HE : Hid (laB r = true) := decide_eq_true (by omega)
          go_enter Tryd.func69, Tryd.ntmps69
          go_wp2
          go_ret
          exact ⟨retb HE.out.symm, rfl⟩
        · have HE : Hid (laB r = false) := decide_eq_false (by omega)
          have g4 : 122 < r := by omega
          have d4 : decide (r ≤ 122) = false := decide_eq_false (by omega)
          clear h4
          go_enter Tryd.func69, Tryd.ntmps69
          go_wp2
          go_ret
          exact ⟨retb HE.out.symm, rfl⟩
theorem gr_at (r : Int) (w : World) :
    Calls Tryd.prog 70 #[.int .i32 r] w fun e w' => e = .returned (.bool (grB r)) ∧ w = w' := by
  by_cases h1 : r < 913
  · have HE : Hid (grB r = false) := decide_eq_false (by omega)
    have h3 : r < 945 := by omega
    go_enter Tryd.func70, Tryd.ntmps70
    go_wp2
    go_ret
    exact ⟨retb HE.out.symm, rfl⟩
  · have g1 : 913 ≤ r := by omega
    clear h1
    by_cases h2 : r ≤ 937
    · by_cases h5 : r = 930
      · have HE : Hid (grB r = false) := decide_eq_false (by omega)
        subst h5
        go_enter Tryd.func70, Tryd.ntmps70
        go_wp2
        go_ret
        exact ⟨retb HE.out.symm, rfl⟩
      · have HE : Hid (grB r = true) := decide_eq_true (by omega)
        have g5 : (r != 930) = true := by simpa using h5
        clear h5
        go_enter Tryd.func70, Tryd.ntmps70
        go_wp2
        go_ret
        exact ⟨retb HE.out.symm, rfl⟩
    · have g2 : 937 < r := by omega
      have d2 : decide (r ≤ 937) = false := decide_eq_false (by omega)
      clear h2
      by_cases h3 : r < 945
      · have HE : Hid (grB r = false) := decide_eq_false (by omega)
        go_enter Tryd.func70, Tryd.ntmps70
        go_wp2
        go_ret
        exact ⟨retb HE.out.symm, rfl⟩
      · have g3 : 945 ≤ r := by omega
        clear h3
        by_cases h4 : r ≤ 969
        · have HE : Hid (grB r = true) := decide_eq_true (by omega)
          go_enter Tryd.func70, Tryd.ntmps70
          go_wp2
          go_ret
          exact ⟨retb HE.out.symm, rfl⟩
        · have HE : Hid (grB r = false) := decide_eq_false (by omega)
          have g4 : 969 < r := by omega
          have d4 : decide (r ≤ 969) = false := decide_eq_false (by omega)
          clear h4
          go_enter Tryd.func70, Tryd.ntmps70
          go_wp2
          go_ret
          exact ⟨retb HE.out.symm, rfl⟩
theorem st_eq (r : Int) : stB r = (laB r || grB r || decide (r = 95)) := by
  unfold stB laB grB
  simp only [withinB]
  rw [Bool.eq_iff_iff]
  simp only [Bool.or_eq_true, Bool.and_eq_true, decide_eq_true_eq, Bool.or_false]
  omega
theorem start_at (r : Int) (w : World) :
    Calls Tryd.prog 62 #[.int .i32 r] w fun e w' => e = .returned (.bool (stB r)) ∧ w = w' := by
  have hst := st_eq r
  have LA : ∀ c, laB r = c → Hid (∀ w, Calls Tryd.prog 69 #[.int .i32 r] w fun e w' => e = .returned (.bool c) ∧ w = w') := fun c h w => by rw [← h]; exact la_at r w
  have GR : ∀ c, grB r = c → Hid (∀ w, Calls Tryd.prog 70 #[.int .i32 r] w fun e w' => e = .returned (.bool c) ∧ w = w') := fun c h w => by rw [← h]; exact gr_at r w
  cases hl : laB r with
  | true =>
    have L0 := LA _ hl
    have HE : Hid (stB r = true) := by show _ = _; rw [hst, hl]; rfl
    clear LA GR hl hst
    go_enter Tryd.func62, Tryd.ntmps62
    go_wp2_with (go_at_call 69; refine (L0.out _).mono ?_; rintro e w1 ⟨rfl, rfl⟩)
    go_ret
    exact ⟨retb HE.out.symm, rfl⟩
  | false =>
    have L0 := LA _ hl
    cases hg : grB r with
    | true =>
      have G0 := GR _ hg
      have HE : Hid (stB r = true) := by show _ = _; rw [hst, hl, hg]; rfl
      clear LA GR hl hst hg
      go_enter Tryd.func62, Tryd.ntmps62
      go_wp2_with (first
        | (go_at_call 69; refine (L0.out _).mono ?_; rintro e w1 ⟨rfl, rfl⟩)
        | (go_at_call 70; refine (G0.out _).mono ?_; rintro e w1 ⟨rfl, rfl⟩))
      go_ret
      exact ⟨retb HE.out.symm, rfl⟩
    | false =>
      have G0 := GR _ hg
      by_cases h95 : r = 95
      · have HE : Hid (stB r = true) := by show _ = _; rw [hst, hl, hg, decide_eq_true h95]; rfl
        have g95 : (r == 95) = true := by simpa using h95
        clear LA GR hl hst hg h95
        go_enter Tryd.func62, Tryd.ntmps62
        go_wp2_with (first
          | (go_at_call 69; refine (L0.out _).mono ?_; rintro e w1 ⟨rfl, rfl⟩)
          | (go_at_call 70; refine (G0.out _).mono ?_; rintro e w1 ⟨rfl, rfl⟩))
        go_ret
        exact ⟨retb HE.out.symm, rfl⟩
      · have HE : Hid (stB r = false) := by show _ = _; rw [hst, hl, hg, decide_eq_false h95]; rfl
        have g95 : (r == 95) = false := by simpa using h95
        clear LA GR hl hst hg h95
        go_enter Tryd.func62, Tryd.ntmps62
        go_wp2_with (first
          | (go_at_call 69; refine (L0.out _).mono ?_; rintro e w1 ⟨rfl, rfl⟩)
          | (go_at_call 70; refine (G0.out _).mono ?_; rintro e w1 ⟨rfl, rfl⟩))
        go_ret
        exact ⟨retb HE.out.symm, rfl⟩
theorem re_eq (r : Int) : reB r = (stB r || decide ((48 ≤ r ∧ r ≤ 57) ∨ r = 8242 ∨ (8320 ≤ r ∧ r ≤ 8329))) := by
  unfold reB
  simp only [withinB]
  congr 1
  rw [Bool.eq_iff_iff]
  simp only [Bool.or_eq_true, Bool.and_eq_true, decide_eq_true_eq, Bool.or_false]
  omega
set_option maxHeartbeats 1000000 in
theorem rest_at (r : Int) (w : World) :
    Calls Tryd.prog 61 #[.int .i32 r] w fun e w' => e = .returned (.bool (reB r)) ∧ w = w' := by
  have hre := re_eq r
  have ST : ∀ c, stB r = c → Hid (∀ w, Calls Tryd.prog 62 #[.int .i32 r] w fun e w' => e = .returned (.bool c) ∧ w = w') := fun c h w => by rw [← h]; exact start_at r w
  cases hs : stB r with
  | true =>
    have S0 := ST _ hs
    have HE : Hid (reB r = true) := by show _ = _; rw [hre, hs]; rfl
    clear ST hs hre
    go_enter Tryd.func61, Tryd.ntmps61
    go_wp2_with (go_at_call 62; refine (S0.out _).mono ?_; rintro e w1 ⟨rfl, rfl⟩)
    go_ret
    exact ⟨retb HE.out.symm, rfl⟩
  | false =>
    have S0 := ST _ hs
    rw [hs, Bool.false_or] at hre
    have HR : Hid (reB r = decide ((48 ≤ r ∧ r ≤ 57) ∨ r = 8242 ∨ (8320 ≤ r ∧ r ≤ 8329))) := hre
    clear ST hs hre
    by_cases h1 : r < 48
    · have HE : Hid (reB r = false) := HR.out.trans (decide_eq_false (by omega))
      have g1 : (r == 8242) = false := by simp; omega
      have g2 : r < 8320 := by omega
      go_enter Tryd.func61, Tryd.ntmps61
      go_wp2_with (go_at_call 62; refine (S0.out _).mono ?_; rintro e w1 ⟨rfl, rfl⟩)
      go_ret
      exact ⟨retb HE.out.symm, rfl⟩
    · have g1 : 48 ≤ r := by omega
      clear h1
      by_cases h2 : r ≤ 57
      · have HE : Hid (reB r = true) := HR.out.trans (decide_eq_true (by omega))
        go_enter Tryd.func61, Tryd.ntmps61
        go_wp2_with (go_at_call 62; refine (S0.out _).mono ?_; rintro e w1 ⟨rfl, rfl⟩)
        go_ret
        exact ⟨retb HE.out.symm, rfl⟩
      · have g2 : 57 < r := by omega
        have d2 : decide (r ≤ 57) = false := decide_eq_false (by omega)
        clear h2
        by_cases h3 : r = 8242
        · have HE : Hid (reB r = true) := HR.out.trans (decide_eq_true (by omega))
          have g3 : (r == 8242) = true := by simpa using h3
          clear h3
          go_enter Tryd.func61, Tryd.ntmps61
          go_wp2_with (go_at_call 62; refine (S0.out _).mono ?_; rintro e w1 ⟨rfl, rfl⟩)
          go_ret
          exact ⟨retb HE.out.symm, rfl⟩
        · have g3 : (r == 8242) = false := by simpa using h3
          by_cases h4 : r < 8320
          · have HE : Hid (reB r = false) := HR.out.trans (decide_eq_false (by omega))
            clear h3
            go_enter Tryd.func61, Tryd.ntmps61
            go_wp2_with (go_at_call 62; refine (S0.out _).mono ?_; rintro e w1 ⟨rfl, rfl⟩)
            go_ret
            exact ⟨retb HE.out.symm, rfl⟩
          · have g4 : 8320 ≤ r := by omega
            clear h4
            by_cases h5 : r ≤ 8329
            · have HE : Hid (reB r = true) := HR.out.trans (decide_eq_true (by omega))
              clear h3
              go_enter Tryd.func61, Tryd.ntmps61
              go_wp2_with (go_at_call 62; refine (S0.out _).mono ?_; rintro e w1 ⟨rfl, rfl⟩)
              go_ret
              exact ⟨retb HE.out.symm, rfl⟩
            · have HE : Hid (reB r = false) := HR.out.trans (decide_eq_false (by omega))
              have g5 : 8329 < r := by omega
              have d5 : decide (r ≤ 8329) = false := decide_eq_false (by omega)
              clear h3 h5
              go_enter Tryd.func61, Tryd.ntmps61
              go_wp2_with (go_at_call 62; refine (S0.out _).mono ?_; rintro e w1 ⟨rfl, rfl⟩)
              go_ret
              exact ⟨retb HE.out.symm, rfl⟩
theorem pl_none (r : Int) (h : ∀ m ∈ marks, m ≠ r) : plB r = emp := by
  unfold plB
  have key : ∀ (ms : List Int) (xs : List ByteArray), (∀ m ∈ ms, m ≠ r) → look r ms xs = emp := by
    intro ms
    induction ms with
    | nil => intro xs _; rfl
    | cons m ms ih =>
      intro xs h
      cases xs with
      | nil => rfl
      | cons x xs =>
        rw [look, if_neg (h m (List.mem_cons_self ..))]
        exact ih xs (fun y hy => h y (List.mem_cons_of_mem _ hy))
  exact key _ _ h
abbrev wordsL : List (List UInt8) := [[97, 110, 100], [111, 114], [110, 111, 116], [101, 120], [97, 108, 108], [109, 111, 100], [116, 114, 117, 101], [102, 97, 108, 115, 101]]
theorem words_eq : words.map ByteArray.toList = wordsL := by decide +kernel
theorem rs_eq (s : ByteArray) : rsB s = wordsL.any (fun x => s.toList == x) := by
  unfold rsB
  rw [← words_eq]
  have key : ∀ l : List ByteArray, anyS s l = (l.map ByteArray.toList).any (fun x => s.toList == x) := by
    intro l
    induction l with
    | nil => rfl
    | cons x l ih => rw [anyS, List.map_cons, List.any_cons, ih]; congr 1; rw [Bool.eq_iff_iff, beq_iff_eq, beq_iff_eq]; exact eq_comm
  exact key _
set_option maxHeartbeats 1000000 in
theorem reserved_at (s : ByteArray) (w : World) :
    Calls Tryd.prog 63 #[.string s] w fun e w' => e = .returned (.bool (rsB s)) ∧ w = w' := by
  have hr := rs_eq s
  simp only [wordsL, List.any_cons, List.any_nil, Bool.or_false] at hr
  have HR : Hid _ := hr
  clear hr
  cases e1 : (s.toList == ([97, 110, 100] : List UInt8)) with
  | true =>
    have HE : Hid (rsB s = true) := by show _ = _; rw [HR.out, e1]; rfl
    clear HR
    go_enter Tryd.func63, Tryd.ntmps63
    go_wp2
    go_ret
    exact ⟨retb HE.out.symm, rfl⟩
  | false =>
    cases e2 : (s.toList == ([111, 114] : List UInt8)) with
    | true =>
      have HE : Hid (rsB s = true) := by show _ = _; rw [HR.out, e1, e2]; rfl
      clear HR
      go_enter Tryd.func63, Tryd.ntmps63
      go_wp2
      go_ret
      exact ⟨retb HE.out.symm, rfl⟩
    | false =>
      cases e3 : (s.toList == ([110, 111, 116] : List UInt8)) with
      | true =>
        have HE : Hid (rsB s = true) := by show _ = _; rw [HR.out, e1, e2, e3]; rfl
        clear HR
        go_enter Tryd.func63, Tryd.ntmps63
        go_wp2
        go_ret
        exact ⟨retb HE.out.symm, rfl⟩
      | false =>
        cases e4 : (s.toList == ([101, 120] : List UInt8)) with
        | true =>
          have HE : Hid (rsB s = true) := by show _ = _; rw [HR.out, e1, e2, e3, e4]; rfl
          clear HR
          go_enter Tryd.func63, Tryd.ntmps63
          go_wp2
          go_ret
          exact ⟨retb HE.out.symm, rfl⟩
        | false =>
          cases e5 : (s.toList == ([97, 108, 108] : List UInt8)) with
          | true =>
            have HE : Hid (rsB s = true) := by show _ = _; rw [HR.out, e1, e2, e3, e4, e5]; rfl
            clear HR
            go_enter Tryd.func63, Tryd.ntmps63
            go_wp2
            go_ret
            exact ⟨retb HE.out.symm, rfl⟩
          | false =>
            cases e6 : (s.toList == ([109, 111, 100] : List UInt8)) with
            | true =>
              have HE : Hid (rsB s = true) := by show _ = _; rw [HR.out, e1, e2, e3, e4, e5, e6]; rfl
              clear HR
              go_enter Tryd.func63, Tryd.ntmps63
              go_wp2
              go_ret
              exact ⟨retb HE.out.symm, rfl⟩
            | false =>
              cases e7 : (s.toList == ([116, 114, 117, 101] : List UInt8)) with
              | true =>
                have HE : Hid (rsB s = true) := by show _ = _; rw [HR.out, e1, e2, e3, e4, e5, e6, e7]; rfl
                clear HR
                go_enter Tryd.func63, Tryd.ntmps63
                go_wp2
                go_ret
                exact ⟨retb HE.out.symm, rfl⟩
              | false =>
                cases e8 : (s.toList == ([102, 97, 108, 115, 101] : List UInt8)) with
                | true =>
                  have HE : Hid (rsB s = true) := by show _ = _; rw [HR.out, e1, e2, e3, e4, e5, e6, e7, e8]; rfl
                  clear HR
                  go_enter Tryd.func63, Tryd.ntmps63
                  go_wp2
                  go_ret
                  exact ⟨retb HE.out.symm, rfl⟩
                | false =>
                  have HE : Hid (rsB s = false) := by show _ = _; rw [HR.out, e1, e2, e3, e4, e5, e6, e7, e8]; rfl
                  clear HR
                  go_enter Tryd.func63, Tryd.ntmps63
                  go_wp2
                  go_ret
                  exact ⟨retb HE.out.symm, rfl⟩
end Go.Proofs.YtncgmnijgdfenaaDoor.Gl
/- Characters of a text: the model's decoding by bytes: plain mathematics. -/
namespace Go.Proofs.YtncgmnijgdfenaaDoor.Gl

/-- byte k of s; 0 behind its end -/
def bt (s : ByteArray) (k : Nat) : Nat := (s.get! k).toNat
theorem bt_of (s : ByteArray) (k : Nat) (h : k < s.size) : bt s k = s[k].toNat := by
  unfold bt
  cases s with
  | mk d =>
    have hd : k < d.size := h
    simp only [ByteArray.get!, getElem!_pos d k hd]
    rfl
theorem bt_lt (s : ByteArray) (k : Nat) : bt s k < 256 := (s.get! k).toNat_lt
/-- what is read at byte i: the character, its bytes, and whether it is one -/
def rdS (s : ByteArray) (i : Nat) : Nat × Nat × Bool := ((Utf8.decode s i).1, (Utf8.decode s i).2, !((Utf8.decode s i).1 == 65533 && (Utf8.decode s i).2 == 1))
theorem rd_of {s : ByteArray} {i c n : Nat} (h : Utf8.decode s i = (c, n)) : rdS s i = (c, n, !(c == 65533 && n == 1)) := by unfold rdS; rw [h]
theorem rd_err {s : ByteArray} {i : Nat} (h : Utf8.decode s i = (65533, 1)) : rdS s i = (65533, 1, false) := rd_of h
theorem rd_one (s : ByteArray) (i : Nat) (h : bt s i < 128) : rdS s i = (bt s i, 1, true) := by
  rw [rd_of (c := bt s i) (n := 1) (by unfold Utf8.decode; simp only [Nat.add_zero]; unfold bt at h ⊢; rw [if_pos h])]
  have : (bt s i == 65533) = false := by simp; omega
  rw [this]; rfl
theorem dec_bad0 (s : ByteArray) (i : Nat) (h : (128 ≤ bt s i ∧ bt s i < 194) ∨ 245 ≤ bt s i) : Utf8.decode s i = (65533, 1) := by
  have hb := bt_lt s i
  have hb1 := bt_lt s (i + 1)
  have hb2 := bt_lt s (i + 2)
  have hb3 := bt_lt s (i + 3)
  unfold Utf8.decode
  simp only [Nat.add_zero, Utf8.runeError]
  unfold bt at *
  rw [if_neg (by omega)]
  split
  · rename_i hc
    simp only [Bool.and_eq_true, beq_iff_eq, decide_eq_true_eq] at hc
    rw [if_neg (by omega)]
  · split
    · rename_i hc
      simp only [Bool.and_eq_true, beq_iff_eq, decide_eq_true_eq] at hc
      omega
    · split
      · rename_i hc
        simp only [Bool.and_eq_true, beq_iff_eq, decide_eq_true_eq] at hc
        rw [if_neg (by simp only [Bool.and_eq_true, decide_eq_true_eq, Utf8.valid, Bool.or_eq_true, ge_iff_le]; omega)]
      · rfl
theorem rd_bad0 (s : ByteArray) (i : Nat) (h : (128 ≤ bt s i ∧ bt s i < 194) ∨ 245 ≤ bt s i) : rdS s i = (65533, 1, false) :=
  rd_err (dec_bad0 s i h)
/-- two bytes -/
theorem dec_two (s : ByteArray) (i : Nat) (h : 194 ≤ bt s i ∧ bt s i < 224) : Utf8.decode s i = if 1 < s.size - i ∧ 128 ≤ bt s (i + 1) ∧ bt s (i + 1) < 192 then ((bt s i - 192) * 64 + (bt s (i + 1) - 128), 2) else (65533, 1) := by
  have hb := bt_lt s i
  have hb1 := bt_lt s (i + 1)
  have hb2 := bt_lt s (i + 2)
  have hb3 := bt_lt s (i + 3)
  unfold Utf8.decode
  simp only [Nat.add_zero, Utf8.runeError]
  unfold bt at *
  rw [if_neg (by omega)]
  by_cases hc : 1 < s.size - i ∧ 128 ≤ (s.get! (i + 1)).toNat ∧ (s.get! (i + 1)).toNat < 192
  · rw [if_pos (by simp only [Bool.and_eq_true, beq_iff_eq, decide_eq_true_eq]; omega), if_pos (by omega), if_pos hc]
    exact congrArg (fun c : Nat => (c, 2)) (by omega)
  · rw [if_neg (by simp only [Bool.and_eq_true, beq_iff_eq, decide_eq_true_eq]; omega), if_neg (by simp only [Bool.and_eq_true, beq_iff_eq, decide_eq_true_eq]; omega), if_neg (by simp only [Bool.and_eq_true, beq_iff_eq, decide_eq_true_eq]; omega), if_neg hc]
/-- three bytes -/
theorem dec_three (s : ByteArray) (i c : Nat) (h : 224 ≤ bt s i ∧ bt s i < 240) (hc0 : c = ((bt s i - 224) * 64 + (bt s (i + 1) - 128)) * 64 + (bt s (i + 2) - 128)) : Utf8.decode s i = if (2 < s.size - i ∧ (128 ≤ bt s (i + 1) ∧ bt s (i + 1) < 192) ∧ 128 ≤ bt s (i + 2) ∧ bt s (i + 2) < 192) ∧ (2048 ≤ c ∧ ¬ (55296 ≤ c ∧ c ≤ 57343)) then (c, 3) else (65533, 1) := by
  have hb := bt_lt s i
  have hb1 := bt_lt s (i + 1)
  have hb2 := bt_lt s (i + 2)
  have hb3 := bt_lt s (i + 3)
  unfold Utf8.decode
  simp only [Nat.add_zero, Utf8.runeError]
  unfold bt at *
  rw [if_neg (by omega), if_neg (by simp only [Bool.and_eq_true, beq_iff_eq, decide_eq_true_eq]; omega)]
  by_cases hc : 2 < s.size - i ∧ (128 ≤ (s.get! (i + 1)).toNat ∧ (s.get! (i + 1)).toNat < 192) ∧ 128 ≤ (s.get! (i + 2)).toNat ∧ (s.get! (i + 2)).toNat < 192
  · have e2 : (s.get! i).toNat % 16 * 4096 + (s.get! (i + 1)).toNat % 64 * 64 + (s.get! (i + 2)).toNat % 64 = c := by omega
    rw [if_pos (by simp only [Bool.and_eq_true, beq_iff_eq, decide_eq_true_eq]; omega)]
    by_cases hv : 2048 ≤ c ∧ ¬ (55296 ≤ c ∧ c ≤ 57343)
    · rw [if_pos (by simp only [Bool.and_eq_true, decide_eq_true_eq, Utf8.valid, Bool.or_eq_true, ge_iff_le]; omega), if_pos ⟨hc, hv⟩]
      exact congrArg (fun c : Nat => (c, 3)) e2
    · rw [if_neg (by simp only [Bool.and_eq_true, decide_eq_true_eq, Utf8.valid, Bool.or_eq_true, ge_iff_le]; omega), if_neg (fun h => hv h.2)]
  · rw [if_neg (by simp only [Bool.and_eq_true, beq_iff_eq, decide_eq_true_eq]; omega), if_neg (by simp only [Bool.and_eq_true, beq_iff_eq, decide_eq_true_eq]; omega), if_neg (fun h => hc h.1)]
/-- four bytes -/
theorem dec_four (s : ByteArray) (i c : Nat) (h : 240 ≤ bt s i ∧ bt s i < 245) (hc0 : c = (((bt s i - 240) * 64 + (bt s (i + 1) - 128)) * 64 + (bt s (i + 2) - 128)) * 64 + (bt s (i + 3) - 128)) : Utf8.decode s i = if (3 < s.size - i ∧ (128 ≤ bt s (i + 1) ∧ bt s (i + 1) < 192) ∧ (128 ≤ bt s (i + 2) ∧ bt s (i + 2) < 192) ∧ 128 ≤ bt s (i + 3) ∧ bt s (i + 3) < 192) ∧ (65536 ≤ c ∧ c ≤ 1114111) then (c, 4) else (65533, 1) := by
  have hb := bt_lt s i
  have hb1 := bt_lt s (i + 1)
  have hb2 := bt_lt s (i + 2)
  have hb3 := bt_lt s (i + 3)
  unfold Utf8.decode
  simp only [Nat.add_zero, Utf8.runeError]
  unfold bt at *
  rw [if_neg (by omega), if_neg (by simp only [Bool.and_eq_true, beq_iff_eq, decide_eq_true_eq]; omega), if_neg (by simp only [Bool.and_eq_true, beq_iff_eq, decide_eq_true_eq]; omega)]
  by_cases hc : 3 < s.size - i ∧ (128 ≤ (s.get! (i + 1)).toNat ∧ (s.get! (i + 1)).toNat < 192) ∧ (128 ≤ (s.get! (i + 2)).toNat ∧ (s.get! (i + 2)).toNat < 192) ∧ 128 ≤ (s.get! (i + 3)).toNat ∧ (s.get! (i + 3)).toNat < 192
  · have e2 : (s.get! i).toNat % 8 * 262144 + (s.get! (i + 1)).toNat % 64 * 4096 + (s.get! (i + 2)).toNat % 64 * 64 + (s.get! (i + 3)).toNat % 64 = c := by omega
    rw [if_pos (by simp only [Bool.and_eq_true, beq_iff_eq, decide_eq_true_eq]; omega)]
    by_cases hv : 65536 ≤ c ∧ c ≤ 1114111
    · rw [if_pos (by simp only [Bool.and_eq_true, decide_eq_true_eq, Utf8.valid, Bool.or_eq_true, ge_iff_le]; omega), if_pos ⟨hc, hv⟩]
      exact congrArg (fun c : Nat => (c, 4)) e2
    · rw [if_neg (by simp only [Bool.and_eq_true, decide_eq_true_eq, Utf8.valid, Bool.or_eq_true, ge_iff_le]; omega), if_neg (fun h => hv h.2)]
  · rw [if_neg (by simp only [Bool.and_eq_true, beq_iff_eq, decide_eq_true_eq]; omega), if_neg (fun h => hc h.1)]
/-- how many bytes the character at i should have, by its first one; the number so far behind j further bytes -/
def accB (s : ByteArray) (i x0 : Nat) : Nat → Nat
  | 0 => x0
  | j + 1 => accB s i x0 j * 64 + (bt s (i + (j + 1)) - 128)
theorem acc_zero (s : ByteArray) (i x0 : Nat) : accB s i x0 0 = x0 := rfl
theorem acc_succ (s : ByteArray) (i x0 j : Nat) : accB s i x0 (j + 1) = accB s i x0 j * 64 + (bt s (i + (j + 1)) - 128) := rfl
theorem rd_two (s : ByteArray) (i : Nat) (h : 194 ≤ bt s i ∧ bt s i < 224) : rdS s i = if 1 < s.size - i ∧ (∀ k, k < 1 → 128 ≤ bt s (i + (k + 1)) ∧ bt s (i + (k + 1)) < 192) ∧ (128 ≤ accB s i (bt s i - 192) 1 ∧ accB s i (bt s i - 192) 1 ≤ 1114111 ∧ ¬ (55296 ≤ accB s i (bt s i - 192) 1 ∧ accB s i (bt s i - 192) 1 ≤ 57343)) then (accB s i (bt s i - 192) 1, 2, true) else (65533, 1, false) := by
  have hd := dec_two s i h
  have e : accB s i (bt s i - 192) 1 = (bt s i - 192) * 64 + (bt s (i + 1) - 128) := rfl
  by_cases hc : 1 < s.size - i ∧ 128 ≤ bt s (i + 1) ∧ bt s (i + 1) < 192
  · rw [if_pos hc] at hd
    rw [if_pos ⟨hc.1, fun k hk => (by obtain rfl : k = 0 := by omega
                                      exact hc.2), by rw [e]; omega⟩, rd_of hd, e]
    have : ((bt s i - 192) * 64 + (bt s (i + 1) - 128) == 65533) = false := by simp; omega
    rw [this]; rfl
  · rw [if_neg hc] at hd
    rw [if_neg (fun h => hc ⟨h.1, h.2.1 0 (by omega)⟩), rd_err hd]
theorem rd_three (s : ByteArray) (i : Nat) (h : 224 ≤ bt s i ∧ bt s i < 240) : rdS s i = if 2 < s.size - i ∧ (∀ k, k < 2 → 128 ≤ bt s (i + (k + 1)) ∧ bt s (i + (k + 1)) < 192) ∧ (2048 ≤ accB s i (bt s i - 224) 2 ∧ accB s i (bt s i - 224) 2 ≤ 1114111 ∧ ¬ (55296 ≤ accB s i (bt s i - 224) 2 ∧ accB s i (bt s i - 224) 2 ≤ 57343)) then (accB s i (bt s i - 224) 2, 3, true) else (65533, 1, false) := by
  have hd := dec_three s i (accB s i (bt s i - 224) 2) h rfl
  have e : accB s i (bt s i - 224) 2 = ((bt s i - 224) * 64 + (bt s (i + 1) - 128)) * 64 + (bt s (i + 2) - 128) := rfl
  generalize accB s i (bt s i - 224) 2 = c at *
  by_cases hc : (2 < s.size - i ∧ (128 ≤ bt s (i + 1) ∧ bt s (i + 1) < 192) ∧ 128 ≤ bt s (i + 2) ∧ bt s (i + 2) < 192) ∧ (2048 ≤ c ∧ ¬ (55296 ≤ c ∧ c ≤ 57343))
  · rw [if_pos hc] at hd
    rw [if_pos ⟨hc.1.1, fun k hk => (by
      rcases (show k = 0 ∨ k = 1 by omega) with rfl | rfl
      · exact hc.1.2.1
      · exact hc.1.2.2), by omega⟩, rd_of hd]
    simp
  · rw [if_neg hc] at hd
    rw [if_neg (fun h => hc ⟨⟨h.1, h.2.1 0 (by omega), h.2.1 1 (by omega)⟩, h.2.2.1, h.2.2.2.2⟩), rd_err hd]
theorem rd_four (s : ByteArray) (i : Nat) (h : 240 ≤ bt s i ∧ bt s i < 245) : rdS s i = if 3 < s.size - i ∧ (∀ k, k < 3 → 128 ≤ bt s (i + (k + 1)) ∧ bt s (i + (k + 1)) < 192) ∧ (65536 ≤ accB s i (bt s i - 240) 3 ∧ accB s i (bt s i - 240) 3 ≤ 1114111 ∧ ¬ (55296 ≤ accB s i (bt s i - 240) 3 ∧ accB s i (bt s i - 240) 3 ≤ 57343)) then (accB s i (bt s i - 240) 3, 4, true) else (65533, 1, false) := by
  have hd := dec_four s i (accB s i (bt s i - 240) 3) h rfl
  generalize accB s i (bt s i - 240) 3 = c at *
  by_cases hc : (3 < s.size - i ∧ (128 ≤ bt s (i + 1) ∧ bt s (i + 1) < 192) ∧ (128 ≤ bt s (i + 2) ∧ bt s (i + 2) < 192) ∧ 128 ≤ bt s (i + 3) ∧ bt s (i + 3) < 192) ∧ (65536 ≤ c ∧ c ≤ 1114111)
  · rw [if_pos hc] at hd
    rw [if_pos ⟨hc.1.1, fun k hk => (by
      rcases (show k = 0 ∨ k = 1 ∨ k = 2 by omega) with rfl | rfl | rfl
      · exact hc.1.2.1
      · exact hc.1.2.2.1
      · exact hc.1.2.2.2), by omega⟩, rd_of hd]
    simp
  · rw [if_neg hc] at hd
    rw [if_neg (fun h => hc ⟨⟨h.1, h.2.1 0 (by omega), h.2.1 1 (by omega), h.2.1 2 (by omega)⟩, h.2.2.1, h.2.2.2.1⟩), rd_err hd]
end Go.Proofs.YtncgmnijgdfenaaDoor.Gl
/- The document's Read. -/
namespace Go.Proofs.YtncgmnijgdfenaaDoor.Gl
open Go.RowKit
set_option linter.unusedVariables false

theorem acc_le (s : ByteArray) (i x0 j : Nat) (h : x0 < 32) : accB s i x0 j < 32 * 128 ^ j := by
  induction j with
  | zero => rw [acc_zero]; omega
  | succ j ih =>
    have := bt_lt s (i + (j + 1))
    have hp : 0 < 128 ^ j := Nat.pow_pos (by omega)
    rw [acc_succ, Nat.pow_succ]
    omega
theorem acc_small (s : ByteArray) (i x0 j : Nat) (h : x0 < 32) (hj : j ≤ 3) : accB s i x0 j ≤ 100000000 := by
  have h1 := acc_le s i x0 j h
  have h2 : 128 ^ j ≤ 128 ^ 3 := Nat.pow_le_pow_right (by omega) hj
  omega
theorem ret3 {s : ByteArray} {i a b : Nat} {c : Bool} {x y : Int} {z : Bool} (h : rdS s i = (a, b, c)) (hx : x = a) (hy : y = b) (hz : z = c) : Ending.returned (.tuple #[.int .i64 x, .int .i64 y, .bool z]) = .returned (.tuple #[.int .i64 ((rdS s i).1 : Nat), .int .i64 ((rdS s i).2.1 : Nat), .bool (rdS s i).2.2]) := by
  rw [h, hx, hy, hz]
abbrev Reads (s : ByteArray) (i : Nat) (w : World) : Prop := Calls Tryd.prog 50 #[.string s, .int .i64 i] w fun e w' => e = .returned (.tuple #[.int .i64 ((rdS s i).1 : Nat), .int .i64 ((rdS s i).2.1 : Nat), .bool (rdS s i).2.2]) ∧ w = w'
set_option maxRecDepth 100000 in
theorem read_one (s : ByteArray) (i : Nat) (w : World) (hs : s.size ≤ 9223372036854775807) (hi : i < s.size) (h : s[i].toNat < 128) : Reads s i w := by
  have HE : Hid (rdS s i = (s[i].toNat, 1, true)) := by
    have := rd_one s i (by rw [bt_of s i hi]; exact h)
    rwa [bt_of s i hi] at this
  go_enter Tryd.func50, Tryd.ntmps50
  go_wp2
  all_goals go_ret3
  all_goals exact ⟨ret3 HE.out rfl rfl rfl, rfl⟩
set_option maxRecDepth 100000 in
theorem read_bad (s : ByteArray) (i : Nat) (w : World) (hs : s.size ≤ 9223372036854775807) (hi : i < s.size) (h : (128 ≤ s[i].toNat ∧ s[i].toNat < 194) ∨ 245 ≤ s[i].toNat) : Reads s i w := by
  have HE : Hid (rdS s i = (65533, 1, false)) := rd_bad0 s i (by rw [bt_of s i hi]; exact h)
  rcases h with ⟨h1, h2⟩ | h1
  · go_enter Tryd.func50, Tryd.ntmps50
    go_wp2
    all_goals go_ret3
    all_goals exact ⟨ret3 HE.out rfl rfl rfl, rfl⟩
  · have h2 : s[i].toNat < 256 := s[i].toNat_lt
    go_enter Tryd.func50, Tryd.ntmps50
    go_wp2
    all_goals go_ret3
    all_goals exact ⟨ret3 HE.out rfl rfl rfl, rfl⟩
set_option maxRecDepth 100000 in
set_option maxHeartbeats 2000000 in
theorem read_two (s : ByteArray) (i : Nat) (w : World) (hs : s.size ≤ 9223372036854775807) (hi : i < s.size) (h1 : 194 ≤ s[i].toNat) (h2 : s[i].toNat < 224) : Reads s i w := by
  have hr := rd_two s i (by rw [bt_of s i hi]; exact ⟨h1, h2⟩)
  rw [bt_of s i hi] at hr
  obtain ⟨x0, hx0⟩ : ∃ x0, s[i].toNat - 192 = x0 := ⟨_, rfl⟩
  rw [hx0] at hr
  have HR : Hid _ := hr
  have hx1 : x0 < 32 := by omega
  have HX : Hid ((s[i].toNat : Int) - 192 = (x0 : Int)) := by show _ = _; omega
  have hxe := HX.out
  clear hr hx0
  by_cases hz : 2 ≤ s.size - i
  · have d0 : decide ((s[i].toNat : Int) < 128) = false := decide_eq_false (by omega)
    have d1 : decide ((194 : Int) ≤ (s[i].toNat : Int)) = true := decide_eq_true (by omega)
    have d2 : decide ((s[i].toNat : Int) < 224) = true := decide_eq_true (by omega)
    have d3 : decide ((s.size : Int) - (i : Int) < 2) = false := decide_eq_false (by omega)
    go_enter Tryd.func50, Tryd.ntmps50
    go_wp2
    clear hxe
    go_loop [7, 10] (fun x n => ∃ j : Nat, j + 1 ≤ 2 ∧ n = .int .i64 ((j : Int) + 1) ∧ x = .int .i64 (accB s i x0 j : Nat) ∧ Hid (∀ k, k < j → 128 ≤ bt s (i + (k + 1)) ∧ bt s (i + (k + 1)) < 192)) (fun _ n => 2 + 1 - (intOf n).toNat)
    case atStart => exact ⟨0, by omega, rfl, by first | rfl | (rw [HX.out]; rfl), fun k hk => absurd hk (by omega)⟩
    case round =>
      obtain ⟨j, hj, rfl, rfl, hall⟩ := hrel
      have hA := acc_small s i x0 j hx1 (by omega)
      by_cases hlt : j + 1 < 2
      · have hij : i + (j + 1) < s.size := by omega
        have hy := bt_of s (i + (j + 1)) hij
        have HY : Hid (bt s (i + (j + 1)) = s[i + (j + 1)].toNat) := hy
        have HA : Hid (accB s i x0 (j + 1) = accB s i x0 j * 64 + (s[i + (j + 1)].toNat - 128)) := by show _ = _; rw [acc_succ, hy]
        have e1 : ((i : Int) + ((j : Int) + 1)).toNat = i + (j + 1) := by omega
        have hcb : s[i + (j + 1)].toNat < 256 := s[i + (j + 1)].toNat_lt
        clear hy
        generalize hq : accB s i x0 j = q at *
        clear hq
        by_cases hc : 128 ≤ s[i + (j + 1)].toNat ∧ s[i + (j + 1)].toNat < 192
        · obtain ⟨hc1, hc2⟩ := hc
          go_wp2
          go_round
          case rel =>
            refine ⟨j + 1, by omega, by go_num, congrArg (Value.int .i64) (by rw [HA.out]; omega), fun k hk => ?_⟩
            rcases Nat.lt_succ_iff_lt_or_eq.1 hk with hk | rfl
            · exact hall.out k hk
            · rw [HY.out]; omega
          case measure => simp [intOf]; omega
        · have HE : Hid (rdS s i = (65533, 1, false)) := by
            show _ = _
            rw [HR.out, if_neg (fun h => hc (by have := h.2.1 j (by omega); rwa [HY.out] at this))]
          by_cases hc1 : s[i + (j + 1)].toNat < 128
          all_goals try (have hc2 : 191 < s[i + (j + 1)].toNat := by omega)
          all_goals
            clear hc
            go_wp2
            all_goals go_ret3
            all_goals exact ⟨ret3 HE.out rfl rfl rfl, rfl⟩
      · obtain rfl : j = 1 := by omega
        generalize hq : accB s i x0 1 = q at *
        by_cases hv : 128 ≤ q ∧ q ≤ 1114111 ∧ ¬ (55296 ≤ q ∧ q ≤ 57343)
        · have HE : Hid (rdS s i = (q, 2, true)) := by
            show _ = _
            rw [HR.out, if_pos ⟨by omega, hall.out, hv⟩]
          obtain ⟨v1, v2, v3⟩ := hv
          clear hq
          by_cases hv4 : q < 55296
          all_goals try (have hv5 : 57343 < q := by omega)
          all_goals
            clear v3
            go_wp2
            all_goals go_ret3
            all_goals exact ⟨ret3 HE.out rfl rfl rfl, rfl⟩
        · have HE : Hid (rdS s i = (65533, 1, false)) := by
            show _ = _
            rw [HR.out, if_neg (fun h => hv h.2.2)]
          clear hq
          by_cases v1 : q < 128
          · clear hv
            go_wp2
            all_goals go_ret3
            all_goals exact ⟨ret3 HE.out rfl rfl rfl, rfl⟩
          · by_cases v2 : 1114111 < q
            · clear hv
              go_wp2
              all_goals go_ret3
              all_goals exact ⟨ret3 HE.out rfl rfl rfl, rfl⟩
            · have v3 : 55296 ≤ q := by omega
              have v4 : q ≤ 57343 := by omega
              clear hv
              go_wp2
              all_goals go_ret3
              all_goals exact ⟨ret3 HE.out rfl rfl rfl, rfl⟩
  · have HE : Hid (rdS s i = (65533, 1, false)) := by
      show _ = _
      rw [HR.out, if_neg (fun h => hz (by have := h.1; omega))]
    go_enter Tryd.func50, Tryd.ntmps50
    go_wp2
    all_goals go_ret3
    all_goals exact ⟨ret3 HE.out rfl rfl rfl, rfl⟩
set_option maxRecDepth 100000 in
set_option maxHeartbeats 2000000 in
theorem read_three (s : ByteArray) (i : Nat) (w : World) (hs : s.size ≤ 9223372036854775807) (hi : i < s.size) (h1 : 224 ≤ s[i].toNat) (h2 : s[i].toNat < 240) : Reads s i w := by
  have hr := rd_three s i (by rw [bt_of s i hi]; exact ⟨h1, h2⟩)
  rw [bt_of s i hi] at hr
  obtain ⟨x0, hx0⟩ : ∃ x0, s[i].toNat - 224 = x0 := ⟨_, rfl⟩
  rw [hx0] at hr
  have HR : Hid _ := hr
  have hx1 : x0 < 32 := by omega
  have HX : Hid ((s[i].toNat : Int) - 224 = (x0 : Int)) := by show _ = _; omega
  have hxe := HX.out
  clear hr hx0
  by_cases hz : 3 ≤ s.size - i
  · have d0 : decide ((s[i].toNat : Int) < 128) = false := decide_eq_false (by omega)
    have d1 : decide ((194 : Int) ≤ (s[i].toNat : Int)) = true := decide_eq_true (by omega)
    have d2 : decide ((s[i].toNat : Int) < 224) = false := decide_eq_false (by omega)
    have d3 : decide ((224 : Int) ≤ (s[i].toNat : Int)) = true := decide_eq_true (by omega)
    have d4 : decide ((s[i].toNat : Int) < 240) = true := decide_eq_true (by omega)
    have d5 : decide ((s.size : Int) - (i : Int) < 3) = false := decide_eq_false (by omega)
    go_enter Tryd.func50, Tryd.ntmps50
    go_wp2
    clear hxe
    go_loop [7, 10] (fun x n => ∃ j : Nat, j + 1 ≤ 3 ∧ n = .int .i64 ((j : Int) + 1) ∧ x = .int .i64 (accB s i x0 j : Nat) ∧ Hid (∀ k, k < j → 128 ≤ bt s (i + (k + 1)) ∧ bt s (i + (k + 1)) < 192)) (fun _ n => 3 + 1 - (intOf n).toNat)
    case atStart => exact ⟨0, by omega, rfl, by first | rfl | (rw [HX.out]; rfl), fun k hk => absurd hk (by omega)⟩
    case round =>
      obtain ⟨j, hj, rfl, rfl, hall⟩ := hrel
      have hA := acc_small s i x0 j hx1 (by omega)
      by_cases hlt : j + 1 < 3
      · have hij : i + (j + 1) < s.size := by omega
        have hy := bt_of s (i + (j + 1)) hij
        have HY : Hid (bt s (i + (j + 1)) = s[i + (j + 1)].toNat) := hy
        have HA : Hid (accB s i x0 (j + 1) = accB s i x0 j * 64 + (s[i + (j + 1)].toNat - 128)) := by show _ = _; rw [acc_succ, hy]
        have e1 : ((i : Int) + ((j : Int) + 1)).toNat = i + (j + 1) := by omega
        have hcb : s[i + (j + 1)].toNat < 256 := s[i + (j + 1)].toNat_lt
        clear hy
        generalize hq : accB s i x0 j = q at *
        clear hq
        by_cases hc : 128 ≤ s[i + (j + 1)].toNat ∧ s[i + (j + 1)].toNat < 192
        · obtain ⟨hc1, hc2⟩ := hc
          go_wp2
          go_round
          case rel =>
            refine ⟨j + 1, by omega, by go_num, congrArg (Value.int .i64) (by rw [HA.out]; omega), fun k hk => ?_⟩
            rcases Nat.lt_succ_iff_lt_or_eq.1 hk with hk | rfl
            · exact hall.out k hk
            · rw [HY.out]; omega
          case measure => simp [intOf]; omega
        · have HE : Hid (rdS s i = (65533, 1, false)) := by
            show _ = _
            rw [HR.out, if_neg (fun h => hc (by have := h.2.1 j (by omega); rwa [HY.out] at this))]
          by_cases hc1 : s[i + (j + 1)].toNat < 128
          all_goals try (have hc2 : 191 < s[i + (j + 1)].toNat := by omega)
          all_goals
            clear hc
            go_wp2
            all_goals go_ret3
            all_goals exact ⟨ret3 HE.out rfl rfl rfl, rfl⟩
      · obtain rfl : j = 2 := by omega
        generalize hq : accB s i x0 2 = q at *
        by_cases hv : 2048 ≤ q ∧ q ≤ 1114111 ∧ ¬ (55296 ≤ q ∧ q ≤ 57343)
        · have HE : Hid (rdS s i = (q, 3, true)) := by
            show _ = _
            rw [HR.out, if_pos ⟨by omega, hall.out, hv⟩]
          obtain ⟨v1, v2, v3⟩ := hv
          clear hq
          by_cases hv4 : q < 55296
          all_goals try (have hv5 : 57343 < q := by omega)
          all_goals
            clear v3
            go_wp2
            all_goals go_ret3
            all_goals exact ⟨ret3 HE.out rfl rfl rfl, rfl⟩
        · have HE : Hid (rdS s i = (65533, 1, false)) := by
            show _ = _
            rw [HR.out, if_neg (fun h => hv h.2.2)]
          clear hq
          by_cases v1 : q < 2048
          · clear hv
            go_wp2
            all_goals go_ret3
            all_goals exact ⟨ret3 HE.out rfl rfl rfl, rfl⟩
          · by_cases v2 : 1114111 < q
            · clear hv
              go_wp2
              all_goals go_ret3
              all_goals exact ⟨ret3 HE.out rfl rfl rfl, rfl⟩
            · have v3 : 55296 ≤ q := by omega
              have v4 : q ≤ 57343 := by omega
              clear hv
              go_wp2
              all_goals go_ret3
              all_goals exact ⟨ret3 HE.out rfl rfl rfl, rfl⟩
  · have HE : Hid (rdS s i = (65533, 1, false)) := by
      show _ = _
      rw [HR.out, if_neg (fun h => hz (by have := h.1; omega))]
    go_enter Tryd.func50, Tryd.ntmps50
    go_wp2
    all_goals go_ret3
    all_goals exact ⟨ret3 HE.out rfl rfl rfl, rfl⟩
set_option maxRecDepth 100000 in
set_option maxHeartbeats 2000000 in
theorem read_four (s : ByteArray) (i : Nat) (w : World) (hs : s.size ≤ 9223372036854775807) (hi : i < s.size) (h1 : 240 ≤ s[i].toNat) (h2 : s[i].toNat < 245) : Reads s i w := by
  have hr := rd_four s i (by rw [bt_of s i hi]; exact ⟨h1, h2⟩)
  rw [bt_of s i hi] at hr
  obtain ⟨x0, hx0⟩ : ∃ x0, s[i].toNat - 240 = x0 := ⟨_, rfl⟩
  rw [hx0] at hr
  have HR : Hid _ := hr
  have hx1 : x0 < 32 := by omega
  have HX : Hid ((s[i].toNat : Int) - 240 = (x0 : Int)) := by show _ = _; omega
  have hxe := HX.out
  clear hr hx0
  by_cases hz : 4 ≤ s.size - i
  · have d0 : decide ((s[i].toNat : Int) < 128) = false := decide_eq_false (by omega)
    have d1 : decide ((194 : Int) ≤ (s[i].toNat : Int)) = true := decide_eq_true (by omega)
    have d2 : decide ((s[i].toNat : Int) < 224) = false := decide_eq_false (by omega)
    have d3 : decide ((224 : Int) ≤ (s[i].toNat : Int)) = true := decide_eq_true (by omega)
    have d4 : decide ((s[i].toNat : Int) < 240) = false := decide_eq_false (by omega)
    have d5 : decide ((240 : Int) ≤ (s[i].toNat : Int)) = true := decide_eq_true (by omega)
    have d6 : decide ((s[i].toNat : Int) < 245) = true := decide_eq_true (by omega)
    have d7 : decide ((s.size : Int) - (i : Int) < 4) = false := decide_eq_false (by omega)
    go_enter Tryd.func50, Tryd.ntmps50
    go_wp2
    clear hxe
    go_loop [7, 10] (fun x n => ∃ j : Nat, j + 1 ≤ 4 ∧ n = .int .i64 ((j : Int) + 1) ∧ x = .int .i64 (accB s i x0 j : Nat) ∧ Hid (∀ k, k < j → 128 ≤ bt s (i + (k + 1)) ∧ bt s (i + (k + 1)) < 192)) (fun _ n => 4 + 1 - (intOf n).toNat)
    case atStart => exact ⟨0, by omega, rfl, by first | rfl | (rw [HX.out]; rfl), fun k hk => absurd hk (by omega)⟩
    case round =>
      obtain ⟨j, hj, rfl, rfl, hall⟩ := hrel
      have hA := acc_small s i x0 j hx1 (by omega)
      by_cases hlt : j + 1 < 4
      · have hij : i + (j + 1) < s.size := by omega
        have hy := bt_of s (i + (j + 1)) hij
        have HY : Hid (bt s (i + (j + 1)) = s[i + (j + 1)].toNat) := hy
        have HA : Hid (accB s i x0 (j + 1) = accB s i x0 j * 64 + (s[i + (j + 1)].toNat - 128)) := by show _ = _; rw [acc_succ, hy]
        have e1 : ((i : Int) + ((j : Int) + 1)).toNat = i + (j + 1) := by omega
        have hcb : s[i + (j + 1)].toNat < 256 := s[i + (j + 1)].toNat_lt
        clear hy
        generalize hq : accB s i x0 j = q at *
        clear hq
        by_cases hc : 128 ≤ s[i + (j + 1)].toNat ∧ s[i + (j + 1)].toNat < 192
        · obtain ⟨hc1, hc2⟩ := hc
          go_wp2
          go_round
          case rel =>
            refine ⟨j + 1, by omega, by go_num, congrArg (Value.int .i64) (by rw [HA.out]; omega), fun k hk => ?_⟩
            rcases Nat.lt_succ_iff_lt_or_eq.1 hk with hk | rfl
            · exact hall.out k hk
            · rw [HY.out]; omega
          case measure => simp [intOf]; omega
        · have HE : Hid (rdS s i = (65533, 1, false)) := by
            show _ = _
            rw [HR.out, if_neg (fun h => hc (by have := h.2.1 j (by omega); rwa [HY.out] at this))]
          by_cases hc1 : s[i + (j + 1)].toNat < 128
          all_goals try (have hc2 : 191 < s[i + (j + 1)].toNat := by omega)
          all_goals
            clear hc
            go_wp2
            all_goals go_ret3
            all_goals exact ⟨ret3 HE.out rfl rfl rfl, rfl⟩
      · obtain rfl : j = 3 := by omega
        generalize hq : accB s i x0 3 = q at *
        by_cases hv : 65536 ≤ q ∧ q ≤ 1114111 ∧ ¬ (55296 ≤ q ∧ q ≤ 57343)
        · have HE : Hid (rdS s i = (q, 4, true)) := by
            show _ = _
            rw [HR.out, if_pos ⟨by omega, hall.out, hv⟩]
          obtain ⟨v1, v2, v3⟩ := hv
          clear hq
          by_cases hv4 : q < 55296
          all_goals try (have hv5 : 57343 < q := by omega)
          all_goals
            clear v3
            go_wp2
            all_goals go_ret3
            all_goals exact ⟨ret3 HE.out rfl rfl rfl, rfl⟩
        · have HE : Hid (rdS s i = (65533, 1, false)) := by
            show _ = _
            rw [HR.out, if_neg (fun h => hv h.2.2)]
          clear hq
          by_cases v1 : q < 65536
          · clear hv
            go_wp2
            all_goals go_ret3
            all_goals exact ⟨ret3 HE.out rfl rfl rfl, rfl⟩
          · by_cases v2 : 1114111 < q
            · clear hv
              go_wp2
              all_goals go_ret3
              all_goals exact ⟨ret3 HE.out rfl rfl rfl, rfl⟩
            · have v3 : 55296 ≤ q := by omega
              have v4 : q ≤ 57343 := by omega
              clear hv
              go_wp2
              all_goals go_ret3
              all_goals exact ⟨ret3 HE.out rfl rfl rfl, rfl⟩
  · have HE : Hid (rdS s i = (65533, 1, false)) := by
      show _ = _
      rw [HR.out, if_neg (fun h => hz (by have := h.1; omega))]
    go_enter Tryd.func50, Tryd.ntmps50
    go_wp2
    all_goals go_ret3
    all_goals exact ⟨ret3 HE.out rfl rfl rfl, rfl⟩
theorem read_at (s : ByteArray) (i : Nat) (w : World) (hs : s.size ≤ 9223372036854775807) (hi : i < s.size) : Reads s i w := by
  have hb : s[i].toNat < 256 := s[i].toNat_lt
  by_cases h1 : s[i].toNat < 128
  · exact read_one s i w hs hi h1
  · by_cases h2 : s[i].toNat < 194 ∨ 245 ≤ s[i].toNat
    · exact read_bad s i w hs hi (by omega)
    · by_cases h3 : s[i].toNat < 224
      · exact read_two s i w hs hi (by omega) h3
      · by_cases h4 : s[i].toNat < 240
        · exact read_three s i w hs hi (by omega) h4
        · exact read_four s i w hs hi (by omega) (by omega)
end Go.Proofs.YtncgmnijgdfenaaDoor.Gl
/- The document's Chars, Good, Name. -/
namespace Go.Proofs.YtncgmnijgdfenaaDoor.Gl
open Go.RowKit
set_option linter.unusedVariables false

theorem rd_bd (s : ByteArray) (i : Nat) (hi : i < s.size) : 1 ≤ (rdS s i).2.1 ∧ i + (rdS s i).2.1 ≤ s.size ∧ (rdS s i).2.1 ≤ 4 := by
  have hb := bt_lt s i
  by_cases h1 : bt s i < 128
  · rw [rd_one s i h1]; dsimp only; omega
  · by_cases h2 : (128 ≤ bt s i ∧ bt s i < 194) ∨ 245 ≤ bt s i
    · rw [rd_bad0 s i h2]; dsimp only; omega
    · by_cases h3 : bt s i < 224
      · rw [rd_two s i (by omega)]
        split
        · rename_i hc; have := hc.1; dsimp only; omega
        · (dsimp only; omega)
      · by_cases h4 : bt s i < 240
        · rw [rd_three s i (by omega)]
          split
          · rename_i hc; have := hc.1; dsimp only; omega
          · (dsimp only; omega)
        · rw [rd_four s i (by omega)]
          split
          · rename_i hc; have := hc.1; dsimp only; omega
          · (dsimp only; omega)
/-- where character number n begins -/
def pos (s : ByteArray) : Nat → Nat
  | 0 => 0
  | n + 1 => pos s n + (rdS s (pos s n)).2.1
theorem pos_zero (s : ByteArray) : pos s 0 = 0 := rfl
theorem pos_succ (s : ByteArray) (n : Nat) : pos s (n + 1) = pos s n + (rdS s (pos s n)).2.1 := rfl
theorem pos_ge (s : ByteArray) (n : Nat) (h : ∀ k, k < n → pos s k < s.size) : n ≤ pos s n ∧ pos s n ≤ s.size := by
  induction n with
  | zero => rw [pos_zero]; omega
  | succ n ih =>
    have h1 := ih (fun k hk => h k (by omega))
    have h2 := rd_bd s (pos s n) (h n (by omega))
    rw [pos_succ]; omega
/-- the text has n characters -/
def IsCnt (s : ByteArray) (n : Nat) : Prop := pos s n = s.size ∧ ∀ k, k < n → pos s k < s.size
theorem cnt_or (s : ByteArray) (n : Nat) : (∃ m, m ≤ n ∧ IsCnt s m) ∨ ∀ k, k ≤ n → pos s k < s.size := by
  induction n with
  | zero =>
    by_cases h : 0 < s.size
    · right; intro k hk; obtain rfl : k = 0 := by omega
      rw [pos_zero]; exact h
    · left; exact ⟨0, Nat.le_refl _, by rw [pos_zero]; omega, fun k hk => by omega⟩
  | succ n ih =>
    rcases ih with ⟨m, hm, hc⟩ | h
    · left; exact ⟨m, by omega, hc⟩
    · by_cases h1 : pos s (n + 1) < s.size
      · right
        intro k hk
        rcases Nat.lt_or_eq_of_le hk with hk | rfl
        · exact h k (by omega)
        · exact h1
      · left
        refine ⟨n + 1, Nat.le_refl _, ?_, fun k hk => h k (by omega)⟩
        have := (pos_ge s (n + 1) (fun k hk => h k (by omega))).2
        omega
theorem cnt_is (s : ByteArray) : ∃ n, IsCnt s n := by
  rcases cnt_or s s.size with ⟨m, _, h⟩ | h
  · exact ⟨m, h⟩
  · have h1 := (pos_ge s s.size (fun k hk => h k (by omega))).1
    have h2 := h s.size (Nat.le_refl _)
    omega
theorem cnt_lt {s : ByteArray} {n m : Nat} (h : IsCnt s n) (hm : ∀ k, k < m → pos s k < s.size) : m ≤ n := by
  by_cases hc : m ≤ n
  · exact hc
  · have := hm n (by omega)
    have := h.1
    omega
theorem cnt_one {s : ByteArray} {n m : Nat} (h : IsCnt s n) (k : IsCnt s m) : n = m := Nat.le_antisymm (cnt_lt k h.2) (cnt_lt h k.2)
end Go.Proofs.YtncgmnijgdfenaaDoor.Gl
/- The document's Good, Name. -/
namespace Go.Proofs.YtncgmnijgdfenaaDoor.Gl
open Go.RowKit
set_option linter.unusedVariables false

theorem read_is (s : ByteArray) (p r wd : Nat) (ok : Bool) (w : World) (hs : s.size ≤ 9223372036854775807) (hp : p < s.size) (h : rdS s p = (r, wd, ok)) :
    Calls Tryd.prog 50 #[.string s, .int .i64 p] w fun e w' => e = .returned (.tuple #[.int .i64 (r : Nat), .int .i64 (wd : Nat), .bool ok]) ∧ w = w' := by
  have := read_at s p w hs hp
  unfold Reads at this
  rw [h] at this
  exact this
/-- characters 0 .. k - 1 are characters -/
def Oks (s : ByteArray) (k : Nat) : Prop := ∀ j, j < k → pos s j < s.size ∧ (rdS s (pos s j)).2.2 = true
theorem Oks.lt {s : ByteArray} {k : Nat} (h : Oks s k) : ∀ j, j < k → pos s j < s.size := fun j hj => (h j hj).1
/-- the first wrong byte, or the end -/
def IsGood (s : ByteArray) (g : Nat) : Prop := ∃ k, pos s k = g ∧ Oks s k ∧ (g = s.size ∨ (g < s.size ∧ (rdS s g).2.2 = false))
theorem good_one {s : ByteArray} {g h : Nat} (a : IsGood s g) (b : IsGood s h) : g = h := by
  obtain ⟨k, rfl, ok, e⟩ := a
  obtain ⟨m, rfl, om, f⟩ := b
  rcases Nat.lt_trichotomy k m with hlt | rfl | hlt
  · have := om k hlt
    rcases e with e | ⟨_, e⟩
    · omega
    · rw [e] at this; cases this.2
  · rfl
  · have := ok m hlt
    rcases f with f | ⟨_, f⟩
    · omega
    · rw [f] at this; cases this.2
/-- characters 0 .. k - 1 may stand in a name, the first one at its beginning -/
def Nms (s : ByteArray) (k : Nat) : Prop := ∀ j, j < k → pos s j < s.size ∧ (rdS s (pos s j)).2.2 = true ∧ reB ((rdS s (pos s j)).1 : Nat) = true ∧ (j = 0 → stB ((rdS s (pos s j)).1 : Nat) = true)
theorem Nms.lt {s : ByteArray} {k : Nat} (h : Nms s k) : ∀ j, j < k → pos s j < s.size := fun j hj => (h j hj).1
def IsName (s : ByteArray) : Prop := (∃ n, IsCnt s n ∧ 1 ≤ n ∧ n ≤ 16 ∧ Nms s n) ∧ rsB s = false
theorem name_no {s : ByteArray} {k : Nat} (hk : pos s k < s.size) (hall : ∀ j, j < k → pos s j < s.size) (h : ¬ ((rdS s (pos s k)).2.2 = true ∧ reB ((rdS s (pos s k)).1 : Nat) = true ∧ (k = 0 → stB ((rdS s (pos s k)).1 : Nat) = true))) : ¬ IsName s := by
  rintro ⟨⟨n, hn, _, _, hm⟩, _⟩
  have hkn : k + 1 ≤ n := cnt_lt hn (fun j hj => by
    rcases Nat.lt_succ_iff_lt_or_eq.1 hj with hj | rfl
    · exact hall j hj
    · exact hk)
  have := hm k (by omega)
  exact h this.2
theorem reB_of {r : Int} (h : stB r = true) : reB r = true := by unfold reB; rw [h]; rfl
set_option maxHeartbeats 2000000 in
theorem rname_at (s : ByteArray) (b : Bool) (w : World) (hs : s.size ≤ 9223372036854775807) (hb : b = true ↔ IsName s) :
    Calls Tryd.prog 45 #[.string s] w fun e w' => e = .returned (.bool b) ∧ Below w.heap.size w w' := by
  have HB : Hid (b = true ↔ IsName s) := hb
  clear hb
  go_enter Tryd.func45, Tryd.ntmps45
  go_wp2
  go_loopw [3, 4] (fun m i wr => ∃ k : Nat, m = .int .i64 k ∧ i = .int .i64 (pos s k : Nat) ∧ Hid (Nms s k) ∧ Below w.heap.size w wr) (fun _ i _ => s.size - (intOf i).toNat)
  case atStart => exact ⟨0, rfl, rfl, fun j hj => absurd hj (by omega), Below.refl _ _⟩
  case round =>
    obtain ⟨k, rfl, rfl, hall, hB⟩ := hrel
    obtain ⟨hg1, hg2⟩ := pos_ge s k hall.out.lt
    by_cases hlt : pos s k < s.size
    · obtain ⟨hb1, hb2, hb3⟩ := rd_bd s (pos s k) hlt
      have HS : Hid (pos s (k + 1) = pos s k + (rdS s (pos s k)).2.1) := pos_succ s k
      have HNO : Hid (¬ ((rdS s (pos s k)).2.2 = true ∧ reB ((rdS s (pos s k)).1 : Nat) = true ∧ (k = 0 → stB ((rdS s (pos s k)).1 : Nat) = true)) → b = false) := fun h => by
        cases b with
        | false => rfl
        | true => exact absurd (HB.out.1 rfl) (name_no hlt hall.out.lt h)
      have HYES : Hid ((rdS s (pos s k)).2.2 = true ∧ reB ((rdS s (pos s k)).1 : Nat) = true ∧ (k = 0 → stB ((rdS s (pos s k)).1 : Nat) = true) → Nms s (k + 1)) := fun h j hj => by
        rcases Nat.lt_succ_iff_lt_or_eq.1 hj with hj | rfl
        · exact hall.out j hj
        · exact ⟨hlt, h⟩
      obtain ⟨⟨r, wd, ok⟩, hr⟩ : ∃ R, rdS s (pos s k) = R := ⟨_, rfl⟩
      have RD : Hid (∀ w, Calls Tryd.prog 50 #[.string s, .int .i64 (pos s k : Nat)] w fun e w' => e = .returned (.tuple #[.int .i64 (r : Nat), .int .i64 (wd : Nat), .bool ok]) ∧ w = w') := fun w => read_is s (pos s k) r wd ok w hs hlt hr
      rw [hr] at hb1 hb2 HS HNO HYES
      dsimp only at hb1 hb2 HS HNO HYES
      clear hb3 hr
      generalize hp : pos s k = p at *
      clear hp
      cases hok : ok with
      | false =>
        subst hok
        have HE : Hid (b = false) := HNO.out (fun h => by cases h.1)
        go_wp2_with (go_at_call 50; refine (RD.out _).mono ?_; rintro e w' ⟨rfl, rfl⟩)
        go_ret
        exact ⟨retb HE.out.symm, hB⟩
      | true =>
        subst hok
        have RS : ∀ c, reB (r : Nat) = c → Hid (∀ w, Calls Tryd.prog 52 #[.int .i64 (r : Nat)] w fun e w' => e = .returned (.bool c) ∧ Below w.heap.size w w') := fun c h w => by rw [← h]; exact rrest_at r w
        have SS : ∀ c, stB (r : Nat) = c → Hid (∀ w, Calls Tryd.prog 51 #[.int .i64 (r : Nat)] w fun e w' => e = .returned (.bool c) ∧ Below w.heap.size w w') := fun c h w => by rw [← h]; exact rstart_at r w
        rcases Nat.eq_zero_or_pos k with hk | hk
        · subst hk
          cases hst : stB (r : Nat) with
          | false =>
            have HE : Hid (b = false) := HNO.out (fun h => by have := h.2.2 rfl; rw [hst] at this; cases this)
            have S0 := SS _ hst
            clear SS RS hst HNO HYES
            go_wp2_with (first
              | (go_at_call 50; refine (RD.out _).mono ?_; rintro e w' ⟨rfl, rfl⟩)
              | (go_at_call 51; refine (S0.out _).mono ?_; rintro e w1 ⟨rfl, hB1⟩))
            go_ret
            exact ⟨retb HE.out.symm, hB.trans (hB1.mono hB.size)⟩
          | true =>
            have HY : Hid (Nms s (0 + 1)) := HYES.out ⟨rfl, reB_of hst, fun _ => hst⟩
            have S0 := SS _ hst
            have R0 := RS _ (reB_of hst)
            clear SS RS hst HNO HYES
            go_wp2_with (first
              | (go_at_call 50; refine (RD.out _).mono ?_; rintro e w' ⟨rfl, rfl⟩)
              | (go_at_call 51; refine (S0.out _).mono ?_; rintro e w1 ⟨rfl, hB1⟩)
              | (go_at_call 52; refine (R0.out _).mono ?_; rintro e w2 ⟨rfl, hB2⟩))
            go_roundw
            case rel => exact ⟨0 + 1, by go_num, congrArg (Value.int .i64) (by rw [HS.out]; omega), HY, (hB.trans (hB1.mono hB.size)).trans (hB2.mono (Nat.le_trans hB.size hB1.size))⟩
            case measure => simp [intOf]; omega
        · have hk0 : ((k : Int) == 0) = false := by simp; omega
          cases hre : reB (r : Nat) with
          | false =>
            have HE : Hid (b = false) := HNO.out (fun h => by have := h.2.1; rw [hre] at this; cases this)
            have R0 := RS _ hre
            clear SS RS hre HNO HYES
            go_wp2_with (first
              | (go_at_call 50; refine (RD.out _).mono ?_; rintro e w' ⟨rfl, rfl⟩)
              | (go_at_call 52; refine (R0.out _).mono ?_; rintro e w2 ⟨rfl, hB2⟩))
            go_ret
            exact ⟨retb HE.out.symm, hB.trans (hB2.mono hB.size)⟩
          | true =>
            have HY : Hid (Nms s (k + 1)) := HYES.out ⟨rfl, hre, fun h => by omega⟩
            have R0 := RS _ hre
            clear SS RS hre HNO HYES
            go_wp2_with (first
              | (go_at_call 50; refine (RD.out _).mono ?_; rintro e w' ⟨rfl, rfl⟩)
              | (go_at_call 52; refine (R0.out _).mono ?_; rintro e w2 ⟨rfl, hB2⟩))
            go_roundw
            case rel => exact ⟨k + 1, by go_num, congrArg (Value.int .i64) (by rw [HS.out]; omega), HY, hB.trans (hB2.mono hB.size)⟩
            case measure => simp [intOf]; omega
    · have HC : Hid (IsCnt s k) := ⟨by omega, hall.out.lt⟩
      have HP : Hid (b = true ↔ (1 ≤ k ∧ k ≤ 16) ∧ rsB s = false) := by
        show _ ↔ _
        rw [HB.out]
        constructor
        · rintro ⟨⟨n, hn, h1, h2, _⟩, h3⟩
          have := cnt_one hn HC.out
          exact ⟨by omega, h3⟩
        · rintro ⟨⟨h1, h2⟩, h3⟩
          exact ⟨⟨k, HC.out, h1, h2, hall.out⟩, h3⟩
      by_cases hk : 1 ≤ k ∧ k ≤ 16
      · obtain ⟨hk1, hk2⟩ := hk
        have RV : ∀ c, rsB s = c → Hid (∀ w, Calls Tryd.prog 53 #[.string s] w fun e w' => e = .returned (.bool c) ∧ Below w.heap.size w w') := fun c h w => by rw [← h]; exact rreserved_at s w
        cases hrs : rsB s with
        | false =>
          have HE : Hid (b = true) := HP.out.2 ⟨⟨hk1, hk2⟩, hrs⟩
          have R0 := RV _ hrs
          clear RV hrs
          go_wp2_with (go_at_call 53; refine (R0.out _).mono ?_; rintro e w2 ⟨rfl, hB2⟩)
          go_ret
          exact ⟨retb HE.out.symm, hB.trans (hB2.mono hB.size)⟩
        | true =>
          have HE : Hid (b = false) := by
            cases b with
            | false => rfl
            | true => have := (HP.out.1 rfl).2; rw [hrs] at this; cases this
          have R0 := RV _ hrs
          clear RV hrs
          go_wp2_with (go_at_call 53; refine (R0.out _).mono ?_; rintro e w2 ⟨rfl, hB2⟩)
          go_ret
          exact ⟨retb HE.out.symm, hB.trans (hB2.mono hB.size)⟩
      · have HE : Hid (b = false) := by
          cases b with
          | false => rfl
          | true => exact absurd (HP.out.1 rfl).1 hk
        by_cases hk1 : k < 1
        all_goals try (have hk2 : 16 < k := by omega)
        all_goals
          clear hk
          go_wp2
          go_ret
          exact ⟨retb HE.out.symm, hB⟩
end Go.Proofs.YtncgmnijgdfenaaDoor.Gl
