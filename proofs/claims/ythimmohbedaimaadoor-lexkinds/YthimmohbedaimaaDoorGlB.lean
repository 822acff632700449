/- The document's Rest, Blank, Plain, Reserved. -/
import Derived.Test.YthimmohbedaimaaDoorSlA
namespace Go.Proofs.YthimmohbedaimaaDoor.Gl
open Go.RowKit
set_option linter.unusedVariables false

def blB (r : Int) : Bool := decide (r = 32 ∨ r = 9 ∨ r = 10 ∨ r = 13)
abbrev emp : ByteArray := ⟨#[]⟩
/-- the slice reads as the texts ss -/
structure RdS (w : World) (ao : Option Addr) (len cap : Nat) (ss : List ByteArray) : Prop where
  eqlen : ss.length = len
  lecap : len ≤ cap
  lemax : cap ≤ 9223372036854775807
  isnil : ao = none → cap = 0
  cell : ∀ i, i < len → ∃ b off, ao = some ⟨b, off, none⟩ ∧ w.cell? ⟨b, off + i, none⟩ = some (.string (ss.getD i emp))
theorem RdS.below {w w' : World} {ao : Option Addr} {len cap : Nat} {ss : List ByteArray} (h : RdS w ao len cap ss) {B : Nat} (hB : w.heap.size ≤ B) (hb : Below B w w') : RdS w' ao len cap ss := by
  refine ⟨h.eqlen, h.lecap, h.lemax, h.isnil, fun i hi => ?_⟩
  obtain ⟨b, off, rfl, hc⟩ := h.cell i hi
  have hlt := World.block_lt_of_cell? _ _ hc
  exact ⟨b, off, rfl, (hb.cell (p := ⟨b, off + i, none⟩) (Nat.lt_of_lt_of_le hlt hB)).trans hc⟩
abbrev cellsS (ss : List ByteArray) : List Value := ss.map Value.string
theorem sgetD_of {ss : List ByteArray} {i : Nat} (h : i < ss.length) : ss.getD i emp = ss[i] := by
  rw [List.getD_eq_getElem?_getD, List.getElem?_eq_getElem h, Option.getD_some]
theorem rds_built (W : World) (ss : List ByteArray) (n : Nat) (t : TypeId) (g : Nat) (hg : W.heap.size = g) (hn : ss.length = n) (hm : n ≤ 9223372036854775807) : RdS (W.alloc (.cells (cellsS ss).toArray t)) (some ⟨g, 0, none⟩) n n ss := by
  subst hg
  refine ⟨hn, Nat.le_refl _, hm, (fun h => nomatch h), (fun i hi => ⟨W.heap.size, 0, rfl, ?_⟩)⟩
  rw [Nat.zero_add]
  have hi' : i < ss.length := by omega
  simp [List.getElem?_eq_getElem hi']
abbrev words : List ByteArray := [⟨#[97, 110, 100]⟩, ⟨#[111, 114]⟩, ⟨#[110, 111, 116]⟩, ⟨#[101, 120]⟩, ⟨#[97, 108, 108]⟩, ⟨#[109, 111, 100]⟩, ⟨#[116, 114, 117, 101]⟩, ⟨#[102, 97, 108, 115, 101]⟩]
/-- is the text one of these? -/
def anyS (s : ByteArray) : List ByteArray → Bool
  | [] => false
  | x :: l => (x.toList == s.toList) || anyS s l
theorem any_step (s : ByteArray) (ss : List ByteArray) (k : Nat) (h : k < ss.length) : anyS s (ss.drop k) = (((ss.getD k emp).toList == s.toList) || anyS s (ss.drop (k + 1))) := by
  rw [List.drop_eq_getElem_cons h, anyS, sgetD_of h]
def rsB (s : ByteArray) : Bool := anyS s words
abbrev marks : List Int := [8804, 8805, 8800, 8801, 8722, 183, 8594, 8596, 8743, 8744, 172, 8707, 8704]
abbrev signs : List ByteArray := [⟨#[60, 61]⟩, ⟨#[62, 61]⟩, ⟨#[33, 61]⟩, ⟨#[126]⟩, ⟨#[45]⟩, ⟨#[42]⟩, ⟨#[45, 62]⟩, ⟨#[60, 45, 62]⟩, ⟨#[97, 110, 100]⟩, ⟨#[111, 114]⟩, ⟨#[110, 111, 116]⟩, ⟨#[101, 120]⟩, ⟨#[97, 108, 108]⟩]
/-- the text that a mark stands for -/
def look (r : Int) : List Int → List ByteArray → ByteArray
  | m :: ms, x :: xs => if m = r then x else look r ms xs
  | _, _ => emp
def plB (r : Int) : ByteArray := look r marks signs
theorem look_step (r : Int) (ms : List Int) (xs : List ByteArray) (k : Nat) (h : k < ms.length) (h' : k < xs.length) : look r (ms.drop k) (xs.drop k) = if ms.getD k 0 = r then xs.getD k emp else look r (ms.drop (k + 1)) (xs.drop (k + 1)) := by
  rw [List.drop_eq_getElem_cons h, List.drop_eq_getElem_cons h', look, getD_of h, sgetD_of h']
theorem rets {a c : ByteArray} (h : a = c) : Ending.returned (.string a) = .returned (.string c) := by rw [h]
end Go.Proofs.YthimmohbedaimaaDoor.Gl
