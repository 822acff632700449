/- Words in memory; the law's same. -/
import Derived.Test.YthimmohbedaimaaDoorLxF
import Derived.Test.YthimmohbedaimaaDoorGlN
namespace Go.Proofs.YthimmohbedaimaaDoor.Gl
open Go.RowKit
set_option linter.unusedVariables false

/-- a word with its place -/
structure FW where
  kind : Nat
  text : ByteArray
  num : Nat
  byte : Nat
  char : Nat
instance : Inhabited FW := ⟨⟨0, emp, 0, 0, 0⟩⟩
def FW.cells (x : FW) : List Value := [.int .i64 x.kind, .string x.text, .int .i64 x.num, .int .i64 x.byte, .int .i64 x.char]
def FW.val (x : FW) : Value := .agg #[.int .i64 x.kind, .string x.text, .int .i64 x.num, .int .i64 x.byte, .int .i64 x.char]
def full (s : ByteArray) (w : Wd) : FW := ⟨w.kind, w.text, w.num, w.byte, cnt (s.extract 0 w.byte)⟩
/-- the slice reads as the words ws -/
structure RdW (w : World) (ao : Option Addr) (len cap : Nat) (ws : List FW) : Prop where
  eqlen : ws.length = len
  lecap : len ≤ cap
  lemax : cap ≤ 9223372036854775807
  isnil : ao = none → cap = 0
  cell : ∀ i, i < len → ∃ b off, ao = some ⟨b, off, none⟩ ∧ b < w.heap.size ∧ w.cell? ⟨b, off + i * 5, none⟩ = some (.int .i64 (ws.getD i default).kind) ∧ w.cell? ⟨b, off + i * 5 + 1, none⟩ = some (.string (ws.getD i default).text) ∧
    w.cell? ⟨b, off + i * 5 + 2, none⟩ = some (.int .i64 (ws.getD i default).num) ∧ w.cell? ⟨b, off + i * 5 + 3, none⟩ = some (.int .i64 (ws.getD i default).byte) ∧ w.cell? ⟨b, off + i * 5 + 4, none⟩ = some (.int .i64 (ws.getD i default).char)
theorem RdW.below {w w' : World} {ao : Option Addr} {len cap : Nat} {ws : List FW} (h : RdW w ao len cap ws) {B : Nat} (hB : w.heap.size ≤ B) (hb : Below B w w') : RdW w' ao len cap ws := by
  refine ⟨h.eqlen, h.lecap, h.lemax, h.isnil, fun i hi => ?_⟩
  obtain ⟨b, off, rfl, hlt, h0, h1, h2, h3, h4⟩ := h.cell i hi
  have k : ∀ o v, w.cell? ⟨b, o, none⟩ = some v → w'.cell? ⟨b, o, none⟩ = some v := fun o v e => (hb.cell (p := ⟨b, o, none⟩) (Nat.lt_of_lt_of_le hlt hB)).trans e
  exact ⟨b, off, rfl, Nat.lt_of_lt_of_le hlt hb.size, k _ _ h0, k _ _ h1, k _ _ h2, k _ _ h3, k _ _ h4⟩
set_option maxHeartbeats 2000000 in
theorem wsame_at (ao ao' : Option Addr) (n c c' : Nat) (T : List FW) (w : World) (h : RdW w ao n c T) (k : RdW w ao' n c' T) :
    Calls Tryd.prog 12 #[.slice ao n c, .slice ao' n c'] w fun e w' => e = .returned (.bool true) ∧ Below w.heap.size w w' := by
  have hcn := h.lecap
  have hcx := h.lemax
  have hcm := k.lecap
  have hmx := k.lemax
  go_enter Tryd.func12, Tryd.ntmps12
  go_wp2
  go_loopw [13] (fun i wr => ∃ j : Nat, j ≤ n ∧ i = .int .i64 j ∧ Below w.heap.size w wr) (fun i _ => n - (intOf i).toNat)
  case atStart => exact ⟨0, Nat.zero_le _, rfl, Below.refl _ _⟩
  case round =>
    obtain ⟨j, hj, rfl, hnx⟩ := hrel
    by_cases hlt : j < n
    · obtain ⟨g, o, rfl, hg, b0, b1, b2, b3, b4⟩ := (h.below (Nat.le_refl _) hnx).cell j hlt
      obtain ⟨g', o', rfl, hg', c0, c1, c2, c3, c4⟩ := (k.below (Nat.le_refl _) hnx).cell j hlt
      have hnd := fun q => below_drewn hnx q
      generalize T.getD j default = x at *
      obtain ⟨xk, xt, xn, xb, xc⟩ := x
      dsimp only at b0 b1 b2 b3 b4 c0 c1 c2 c3 c4
      have hxx : (xt.toList == xt.toList) = true := by simp
      go_wp2
      go_quiet (fail)
      go_wp2
      go_roundw
      case rel => exact ⟨j + 1, by omega, by go_num, hnd _⟩
      case measure => simp [intOf]; omega
    · obtain rfl : j = n := by omega
      go_wp2
      go_ret
      exact ⟨rfl, hnx⟩
end Go.Proofs.YthimmohbedaimaaDoor.Gl
