/- Rows and blocks: a store elsewhere. -/
import Derived.Test.YtiapkblebbcfbaaNmC
namespace Go.Proofs.Ytiapkblebbcfbaa.Gl
open Go.RowKit
set_option linter.unusedVariables false

theorem rds_other {w : World} {ro : Option Addr} {n c X : Nat} {T : List ByteArray} (h : RdS w ro n c T) (hne : ∀ ad, ro = some ad → ad.block ≠ X) (i : Nat) (v : Value) : RdS (w.setCell ⟨X, i, none⟩ v) ro n c T := by
  refine ⟨h.eqlen, h.lecap, h.lemax, h.isnil, fun j hj => ?_⟩
  obtain ⟨b, off, rfl, hc⟩ := h.cell j hj
  refine ⟨b, off, rfl, ?_⟩
  have hb : b ≠ X := hne _ rfl
  unfold World.cell? at hc ⊢
  rw [Below.heap_setCell _ _ _ b hb]
  exact hc
theorem rds_st3 {w : World} {ro : Option Addr} {n c X : Nat} {T : List ByteArray} (h : RdS w ro n c T) (hne : ∀ ad, ro = some ad → ad.block ≠ X) (v0 v1 v2 : Value) : RdS (st3 w X v0 v1 v2) ro n c T := rds_other (rds_other (rds_other h hne 0 v0) hne 1 v1) hne 2 v2
theorem owns_other {w : World} {base : Nat} {t : TypeId} {v : Value} {n X : Nat} {xs : List Value} (h : w.ownsRow base t 1 v n xs) (hne : ∀ g, v.ownBlock = some g → g ≠ X) (i : Nat) (u : Value) : (w.setCell ⟨X, i, none⟩ u).ownsRow base t 1 v n xs := by
  refine ⟨h.1, ?_⟩
  rcases h.2 with h | ⟨g, cap, cur, e, hb, hh, hr⟩
  · exact .inl h
  · subst e
    exact .inr ⟨g, cap, cur, rfl, hb, by rw [Below.heap_setCell _ _ _ g (hne g rfl)]; exact hh, hr⟩
theorem owns_st3 {w : World} {base : Nat} {t : TypeId} {v : Value} {n X : Nat} {xs : List Value} (h : w.ownsRow base t 1 v n xs) (hne : ∀ g, v.ownBlock = some g → g ≠ X) (v0 v1 v2 : Value) : (st3 w X v0 v1 v2).ownsRow base t 1 v n xs := owns_other (owns_other (owns_other h hne 0 v0) hne 1 v1) hne 2 v2
theorem rdz_other {w : World} {ro : Option Addr} {n c X : Nat} {T : List Int} (h : RdZ w ro n c T) (hne : ∀ ad, ro = some ad → ad.block ≠ X) (i : Nat) (v : Value) : RdZ (w.setCell ⟨X, i, none⟩ v) ro n c T := by
  refine ⟨h.eqlen, h.lecap, h.lemax, h.isnil, fun j hj => ?_⟩
  obtain ⟨b, off, rfl, hc⟩ := h.cell j hj
  refine ⟨b, off, rfl, ?_⟩
  have hb : b ≠ X := hne _ rfl
  unfold World.cell? at hc ⊢
  rw [Below.heap_setCell _ _ _ b hb]
  exact hc
theorem rdz_st3 {w : World} {ro : Option Addr} {n c X : Nat} {T : List Int} (h : RdZ w ro n c T) (hne : ∀ ad, ro = some ad → ad.block ≠ X) (v0 v1 v2 : Value) : RdZ (st3 w X v0 v1 v2) ro n c T := rdz_other (rdz_other (rdz_other h hne 0 v0) hne 1 v1) hne 2 v2
theorem LrB.st3 {B X : Nat} {w : World} {r : Lr} {v : Value} (h : LrB B w r v) (hX : X < B) (v0 v1 v2 : Value) : LrB B (Gl.st3 w X v0 v1 v2) r v := by
  cases r with
  | er e => exact h
  | ok s =>
    obtain ⟨no, co, n, c, m, d, e, h1, h2, h3⟩ := h
    exact ⟨no, co, n, c, m, d, e, ⟨rds_st3 h1.1 (fun ad e => by have := h2 ad e; omega) _ _ _, rdz_st3 h1.2 (fun ad e => by have := h3 ad e; omega) _ _ _⟩, h2, h3⟩
theorem mul_yes (a b : Int) (w : World) (ha : I64 a) (hb : I64 b) (h : in64 (a * b) = true) : Calls Try.prog 79 #[.int .i64 a, .int .i64 b] w fun e w' => e = .returned (.tuple #[.int .i64 (a * b), .int .i64 0]) ∧ w = w' := (opc_mul.2 a b w ha hb).1 h
theorem mul_not (a b : Int) (w : World) (ha : I64 a) (hb : I64 b) (h : in64 (a * b) = false) : Calls Try.prog 79 #[.int .i64 a, .int .i64 b] w fun e w' => e = .returned (.tuple #[.int .i64 0, .int .i64 10]) ∧ w = w' := (opc_mul.2 a b w ha hb).2 h
end Go.Proofs.Ytiapkblebbcfbaa.Gl
