/- What BitsPlays is handed, read as numbers. -/
import Derived.Test.YtholafecbmhhhaaProg
import Derived.WalkKit
import Derived.ProofKit
import Derived.OpenShut
import Derived.ChangeArms
import Derived.ChangeSame
import Derived.Deep.Slices
namespace Go.Proofs.Ytholafecbmhhhaa.Dg
open Go.ChangeShapes Go.WideShapes Go.ChangeAt Go.RowKit
set_option linter.unusedVariables false

theorem trod_array {H : Type} {enc : TypeId × Value → H} {P : Program} {w : World} {base : Nat} {spare : Nat → Bool} {held : Bool} {t e : TypeId} {k fuel : Nat} {cs : List Value} {x : DataW H × List MemPlace} (ht : P.underlying t = some (.array k e)) (h : DataW.trod enc P w base spare held fuel t cs = some x) :
    ∃ n, cs.length = P.cellsOf t ∧ ∀ i, i < k → ∃ y, DataW.trod enc P w base spare held n e ((cs.drop (i * P.cellsOf e)).take (P.cellsOf e)) = some y := by
  cases fuel with
  | zero => simp [DataW.trod] at h
  | succ n =>
    unfold DataW.trod at h
    rw [ht] at h
    split at h <;> simp_all
    obtain ⟨hl, xs, hp, hd⟩ := h
    refine ⟨n, fun i hi => ?_⟩
    have h1 := mapM_some_length hp
    have h2 := mapM_some_get hp i i (by rw [List.getElem?_range hi])
    rw [List.length_range] at h1
    rw [List.getElem?_eq_getElem (by omega)] at h2
    exact ⟨_, _, h2⟩
theorem c3 : Try.prog.cellsOf 3 = 1 := by kernel_rfl
theorem c22 : Try.prog.cellsOf 22 = 3 := by kernel_rfl
theorem c23 : Try.prog.cellsOf 23 = 1 := by kernel_rfl
theorem c25 : Try.prog.cellsOf 25 = 4 := by kernel_rfl
theorem c39 : Try.prog.cellsOf 39 = 4 := by kernel_rfl
def numAt (w : World) (a : Addr) : Int := match w.cell? a with | some (.int _ v) => v | _ => 0
theorem numAt_of {w : World} {a : Addr} {k : IntKind} {v : Int} (h : w.cell? a = some (.int k v)) : numAt w a = v := by unfold numAt; rw [h]
theorem op_in {H : Type} {enc : TypeId × Value → H} {w : World} {base : Nat} {spare : Nat → Bool} {held : Bool} {n : Nat} {cs : List Value} {x : DataW H × List MemPlace} (h : DataW.trod enc Try.prog w base spare held n 39 cs = some x) : ∀ f, f < 4 → ∃ v : Int, cs[f]? = some (.int .i64 v) := by
  obtain ⟨xs, m, _, _, hl, hlen, hf⟩ := DataW.trod_struct Try.underlying39 h
  rw [c39] at hl
  have one : ∀ f (v : Value), cs.length = 4 → f < 4 → ∀ y, DataW.trod enc Try.prog w base spare held m 3 ((cs.drop f).take 1) = some y → ∃ v : Int, cs[f]? = some (.int .i64 v) := by
    intro f v hl4 hf4 y hy
    obtain ⟨k, hk, _, _⟩ := DataW.trod_int Try.underlying3 hy
    refine ⟨k, ?_⟩
    have := congrArg (fun l : List Value => l[0]?) hk
    simpa [List.getElem?_take, List.getElem?_drop] using this
  intro f hf4
  have hx : ∃ y, xs[f]? = some y := ⟨xs[f]'(by rw [hlen]; exact hf4), List.getElem?_eq_getElem _⟩
  obtain ⟨y, hy⟩ := hx
  match f, hf4 with
  | 0, h4 =>
    have h9 : DataW.trod enc Try.prog w base spare held m 3 ((cs.drop 0).take (Try.prog.cellsOf 3)) = xs[0]? := hf 0 _ rfl
    rw [c3, hy] at h9
    exact one 0 undef hl h4 y h9
  | 1, h4 =>
    have h9 : DataW.trod enc Try.prog w base spare held m 3 ((cs.drop 1).take (Try.prog.cellsOf 3)) = xs[1]? := hf 1 _ rfl
    rw [c3, hy] at h9
    exact one 1 undef hl h4 y h9
  | 2, h4 =>
    have h9 : DataW.trod enc Try.prog w base spare held m 3 ((cs.drop 2).take (Try.prog.cellsOf 3)) = xs[2]? := hf 2 _ rfl
    rw [c3, hy] at h9
    exact one 2 undef hl h4 y h9
  | 3, h4 =>
    have h9 : DataW.trod enc Try.prog w base spare held m 3 ((cs.drop 3).take (Try.prog.cellsOf 3)) = xs[3]? := hf 3 _ rfl
    rw [c3, hy] at h9
    exact one 3 undef hl h4 y h9
theorem play_in {H : Type} {enc : TypeId × Value → H} {w : World} {base : Nat} {spare : Nat → Bool} {held : Bool} {fuel : Nat} {cs : List Value} {x : DataW H × List MemPlace} (h : DataW.trod enc Try.prog w base spare held fuel 25 cs = some x) :
    ∃ (s0 s1 s2 : Int) (so : Option Addr) (len cap : Nat) (O : Nat → Nat → Int), cs = [.int .i64 s0, .int .i64 s1, .int .i64 s2, .slice so len cap] ∧ len ≤ cap ∧ cap ≤ 9223372036854775807 ∧ ∀ j, j < len → ∃ b off, so = some ⟨b, off, none⟩ ∧ ∀ f, f < 4 → w.cell? ⟨b, off + j * 4 + f, none⟩ = some (.int .i64 (O j f)) := by
  obtain ⟨y0, y1, n, _, hl, h0, h1⟩ := trod_struct2 Try.underlying25 h
  rw [c25] at hl
  match cs, hl with
  | [a, b, c, d], _ =>
    have h0 : DataW.trod enc Try.prog w base spare held n 22 (([a, b, c, d].drop 0).take (Try.prog.cellsOf 22)) = some y0 := h0
    have h1 : DataW.trod enc Try.prog w base spare held n 23 (([a, b, c, d].drop 3).take (Try.prog.cellsOf 23)) = some y1 := h1
    rw [c22] at h0
    rw [c23] at h1
    obtain ⟨n2, _, hs⟩ := trod_array Try.underlying22 h0
    rw [c3] at hs
    obtain ⟨z0, e0⟩ := hs 0 (by omega)
    obtain ⟨z1, e1⟩ := hs 1 (by omega)
    obtain ⟨z2, e2⟩ := hs 2 (by omega)
    obtain ⟨s0, q0, _, _⟩ := DataW.trod_int Try.underlying3 e0
    obtain ⟨s1, q1, _, _⟩ := DataW.trod_int Try.underlying3 e1
    obtain ⟨s2, q2, _, _⟩ := DataW.trod_int Try.underlying3 e2
    simp at q0 q1 q2
    subst q0
    subst q1
    subst q2
    rcases _root_.Go.Deep.open_slice Try.underlying23 h1 with ⟨hd, _⟩ | ⟨ad, len, cap, m, n3, D, Pl, hd, _, hlc, hcm, hm, _, hx⟩
    · simp at hd
      subst hd
      exact ⟨s0, s1, s2, none, 0, 0, fun _ _ => 0, rfl, Nat.le_refl _, by omega, fun j hj => by omega⟩
    · simp at hd
      subst hd
      refine ⟨s0, s1, s2, some ad, len, cap, fun j f => numAt w ((ad.add (j * 4)).add f), rfl, hlc, hcm, fun j hj => ?_⟩
      have hjm : j < m := by rw [hm]; split <;> omega
      obtain ⟨cs', g1, g2⟩ := hx j hjm
      rw [c39] at g1
      obtain ⟨_, _, g3⟩ := World.cells?_some g1
      have g4 := op_in g2
      obtain ⟨bb, off, spot⟩ := ad
      have hspot : spot = none := by
        obtain ⟨cs0, k1, k2⟩ := hx 0 (by omega)
        rw [c39] at k1
        obtain ⟨_, _, k3⟩ := World.cells?_some k1
        obtain ⟨v0, hv0⟩ := op_in k2 0 (by omega)
        have h5 := (k3 0 (by omega)).trans hv0
        simpa [Addr.add] using World.cell?_spot h5
      subst hspot
      refine ⟨bb, off, rfl, fun f hf => ?_⟩
      obtain ⟨v, hv⟩ := g4 f hf
      have h6 := (g3 f hf).trans hv
      show w.cell? _ = some (.int .i64 (numAt w (((⟨bb, off, none⟩ : Addr).add (j * 4)).add f)))
      rw [numAt_of h6]
      rw [add_plain, add_plain] at h6
      exact h6
end Go.Proofs.Ytholafecbmhhhaa.Dg
