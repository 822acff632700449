/- The document's Rest, Blank, Plain, Reserved. -/
import Derived.Test.YtiapkblebbcfbaaGreatSlA
namespace Go.Proofs.YtiapkblebbcfbaaGreat.Gl
open Go.RowKit
set_option linter.unusedVariables false

theorem rrest_at (r : Int) (w : World) :
    Calls Tryz.prog 107 #[.int .i64 r] w fun e w' => e = .returned (.bool (reB r)) ∧ Below w.heap.size w w' := by
  cases hs : stB r with
  | true =>
    have HE : Hid (reB r = true) := by show _ = _; unfold reB; rw [hs]; rfl
    have ST : Hid (∀ w, Calls Tryz.prog 106 #[.int .i64 r] w fun e w' => e = .returned (.bool true) ∧ Below w.heap.size w w') := fun w => by rw [← hs]; exact rstart_at r w
    clear hs
    go_enter Tryz.func107, Tryz.ntmps107
    go_wp2_with (go_at_call 106; refine (ST.out _).mono ?_; rintro e w1 ⟨rfl, hB1⟩)
    go_ret
    exact ⟨retb HE.out.symm, hB1⟩
  | false =>
    have HE : Hid (reB r = withinB r rests) := by show _ = _; unfold reB; rw [hs]; rfl
    have ST : Hid (∀ w, Calls Tryz.prog 106 #[.int .i64 r] w fun e w' => e = .returned (.bool false) ∧ Below w.heap.size w w') := fun w => by rw [← hs]; exact rstart_at r w
    clear hs
    go_enter Tryz.func107, Tryz.ntmps107
    go_wp2_with (first
      | (go_at_call 106; refine (ST.out _).mono ?_; rintro e w1 ⟨rfl, hB1⟩)
      | (go_at_call 118; refine (within_at r _ 3 _ rests _ (rdz_built w1 rests 6 _ _ rfl rfl (by omega)) (by omega)).mono ?_; rintro e w' ⟨rfl, rfl⟩))
    go_ret
    exact ⟨retb HE.out.symm, hB1.alloc hB1.size _⟩
def blB (r : Int) : Bool := decide (r = 32 ∨ r = 9 ∨ r = 10 ∨ r = 13)
abbrev emp : ByteArray := ⟨#[]⟩
/-- the slice reads as the texts ss -/
structure RdS (w : World) (ao : Option Addr) (len cap : Nat) (ss : List ByteArray) : Prop where
  eqlen : ss.length = len
  lecap : len ≤ cap
  lemax : cap ≤ 9223372036854775807
  isnil : ao = none → cap = 0
  cell : ∀ i, i < len → ∃ b off, ao = some ⟨b, off, none⟩ ∧ w.cell? ⟨b, off + i, none⟩ = some (.string (ss.getD i emp))
theorem RdS.below {w w' : World} {ao : Option Addr} {len cap : Nat} {ss : List ByteArray} (h : RdS w ao len cap ss) {B : Nat} (hB : w.heap.size ≤ B) (hb : Below B w w') : RdS w' ao len cap ss := by
  refine ⟨h.eqlen, h.lecap, h.lemax, h.isnil, fun i hi => ?_⟩
  obtain ⟨b, off, rfl, hc⟩ := h.cell i hi
  have hlt := World.block_lt_of_cell? _ _ hc
  exact ⟨b, off, rfl, (hb.cell (p := ⟨b, off + i, none⟩) (Nat.lt_of_lt_of_le hlt hB)).trans hc⟩
abbrev cellsS (ss : List ByteArray) : List Value := ss.map Value.string
theorem sgetD_of {ss : List ByteArray} {i : Nat} (h : i < ss.length) : ss.getD i emp = ss[i] := by
  rw [List.getD_eq_getElem?_getD, List.getElem?_eq_getElem h, Option.getD_some]
theorem rds_built (W : World) (ss : List ByteArray) (n : Nat) (t : TypeId) (g : Nat) (hg : W.heap.size = g) (hn : ss.length = n) (hm : n ≤ 9223372036854775807) : RdS (W.alloc (.cells (cellsS ss).toArray t)) (some ⟨g, 0, none⟩) n n ss := by
  subst hg
  refine ⟨hn, Nat.le_refl _, hm, (fun h => nomatch h), (fun i hi => ⟨W.heap.size, 0, rfl, ?_⟩)⟩
  rw [Nat.zero_add]
  have hi' : i < ss.length := by omega
  simp [List.getElem?_eq_getElem hi']
abbrev words : List ByteArray := [⟨#[97, 110, 100]⟩, ⟨#[111, 114]⟩, ⟨#[110, 111, 116]⟩, ⟨#[101, 120]⟩, ⟨#[97, 108, 108]⟩, ⟨#[109, 111, 100]⟩, ⟨#[116, 114, 117, 101]⟩, ⟨#[102, 97, 108, 115, 101]⟩]
/-- is the text one of these? -/
def anyS (s : ByteArray) : List ByteArray → Bool
  | [] => false
  | x :: l => (x.toList == s.toList) || anyS s l
theorem any_step (s : ByteArray) (ss : List ByteArray) (k : Nat) (h : k < ss.length) : anyS s (ss.drop k) = (((ss.getD k emp).toList == s.toList) || anyS s (ss.drop (k + 1))) := by
  rw [List.drop_eq_getElem_cons h, anyS, sgetD_of h]
def rsB (s : ByteArray) : Bool := anyS s words
set_option maxHeartbeats 1000000 in
theorem rreserved_at (s : ByteArray) (w : World) :
    Calls Tryz.prog 108 #[.string s] w fun e w' => e = .returned (.bool (rsB s)) ∧ Below w.heap.size w w' := by
  have hR : RdS (w.alloc (.cells #[.string ⟨#[97, 110, 100]⟩, .string ⟨#[111, 114]⟩, .string ⟨#[110, 111, 116]⟩, .string ⟨#[101, 120]⟩, .string ⟨#[97, 108, 108]⟩, .string ⟨#[109, 111, 100]⟩, .string ⟨#[116, 114, 117, 101]⟩, .string ⟨#[102, 97, 108, 115, 101]⟩] 9)) (some ⟨w.heap.size, 0, none⟩) 8 8 words := rds_built w words 8 9 w.heap.size rfl rfl (by omega)
  have hB : Below w.heap.size w (w.alloc (.cells #[.string ⟨#[97, 110, 100]⟩, .string ⟨#[111, 114]⟩, .string ⟨#[110, 111, 116]⟩, .string ⟨#[101, 120]⟩, .string ⟨#[97, 108, 108]⟩, .string ⟨#[109, 111, 100]⟩, .string ⟨#[116, 114, 117, 101]⟩, .string ⟨#[102, 97, 108, 115, 101]⟩] 9)) := (Below.refl _ _).alloc (Nat.le_refl _) _
  have HR : Hid _ := hR
  clear hR
  go_enter Tryz.func108, Tryz.ntmps108
  go_wp2
  go_loop [4] (fun i => ∃ k : Nat, k ≤ 8 ∧ i = .int .i64 k ∧ Hid (rsB s = anyS s (words.drop k))) (fun i => 8 - (intOf i).toNat)
  case atStart => exact ⟨0, Nat.zero_le _, rfl, rfl⟩
  case round =>
    obtain ⟨k, hk, rfl, hinv⟩ := hrel
    by_cases hlt : k < 8
    · obtain ⟨b, off, e, hc⟩ := HR.out.cell k hlt
      obtain ⟨rfl, rfl⟩ : w.heap.size = b ∧ 0 = off := by simpa using e
      rw [Nat.zero_add] at hc
      have HS : Hid (rsB s = (((words.getD k emp).toList == s.toList) || anyS s (words.drop (k + 1)))) := hinv.out.trans (any_step s words k hlt)
      generalize hx : words.getD k emp = x at *
      clear hx e hinv
      cases he : (x.toList == s.toList) with
      | true =>
        have HE : Hid (rsB s = true) := by show _ = _; rw [HS.out, he]; rfl
        clear HS
        go_wp2
        go_ret
        exact ⟨retb HE.out.symm, hB⟩
      | false =>
        have HE : Hid (rsB s = anyS s (words.drop (k + 1))) := by show _ = _; rw [HS.out, he]; rfl
        clear HS
        go_wp2
        go_round
        case rel => exact ⟨k + 1, by omega, by go_num, HE⟩
        case measure => simp [intOf]; omega
    · obtain rfl : k = 8 := by omega
      have HE : Hid (rsB s = false) := hinv.out
      clear hinv
      go_wp2
      go_ret
      exact ⟨retb HE.out.symm, hB⟩
abbrev marks : List Int := [8804, 8805, 8800, 8801, 8722, 183, 8594, 8596, 8743, 8744, 172, 8707, 8704]
abbrev signs : List ByteArray := [⟨#[60, 61]⟩, ⟨#[62, 61]⟩, ⟨#[33, 61]⟩, ⟨#[126]⟩, ⟨#[45]⟩, ⟨#[42]⟩, ⟨#[45, 62]⟩, ⟨#[60, 45, 62]⟩, ⟨#[97, 110, 100]⟩, ⟨#[111, 114]⟩, ⟨#[110, 111, 116]⟩, ⟨#[101, 120]⟩, ⟨#[97, 108, 108]⟩]
/-- the text that a mark stands for -/
def look (r : Int) : List Int → List ByteArray → ByteArray
  | m :: ms, x :: xs => if m = r then x else look r ms xs
  | _, _ => emp
def plB (r : Int) : ByteArray := look r marks signs
theorem look_step (r : Int) (ms : List Int) (xs : List ByteArray) (k : Nat) (h : k < ms.length) (h' : k < xs.length) : look r (ms.drop k) (xs.drop k) = if ms.getD k 0 = r then xs.getD k emp else look r (ms.drop (k + 1)) (xs.drop (k + 1)) := by
  rw [List.drop_eq_getElem_cons h, List.drop_eq_getElem_cons h', look, getD_of h, sgetD_of h']
theorem rets {a c : ByteArray} (h : a = c) : Ending.returned (.string a) = .returned (.string c) := by rw [h]
end Go.Proofs.YtiapkblebbcfbaaGreat.Gl
