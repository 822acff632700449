/- The document's Formula: the texts it puts together. -/
import Derived.Test.YtncgmnijgdfenaaDoorShU
namespace Go.Proofs.YtncgmnijgdfenaaDoor.Gl
open Go Go.RowKit
set_option linter.unusedVariables false
set_option linter.unusedSimpArgs false

abbrev RF (W : World) (f : Fm) (c0 c1 c2 c3 c4 : Value) : Prop := ∀ w, Below W.heap.size W w → Calls Tryd.prog 8 #[.agg #[c0, c1, c2, c3, c4]] w fun e w' => e = .returned (.string (shF f)) ∧ Below w.heap.size w w'
abbrev RT (W : World) (t : Tm) (c0 c1 c2 c3 : Value) : Prop := ∀ w, Below W.heap.size W w → Calls Tryd.prog 11 #[.agg #[c0, c1, c2, c3]] w fun e w' => e = .returned (.string (shT t)) ∧ Below w.heap.size w w'
theorem sf_not {x : ByteArray} {m : Int} {t : List Tm} {f : Fm} {s : ByteArray} (hs : tbs s = tbs kNot ++ [32]) : s ++ shF f = shF (.mk 2 x m t [f]) := by
  apply tb_inj; rw [tb_app, hs, tf_not]; simp
theorem sf_pair {o : Int} {x : ByteArray} {m : Int} {t : List Tm} {f g : Fm} {s : ByteArray} (h1 : 3 ≤ o) (h2 : o ≤ 6) (hs : tbs s = 32 :: (tbs (jsg o) ++ [32])) : ⟨#[40]⟩ ++ shF f ++ s ++ shF g ++ ⟨#[41]⟩ = shF (.mk o x m t [f, g]) := by
  apply tb_inj; rw [tb_app, tb_app, tb_app, tb_app, hs, tf_pair h1 h2]; simp; rfl
theorem sf_qu {o : Int} {x : ByteArray} {m : Int} {t : List Tm} {f : Fm} {s : ByteArray} (h : o = 7 ∨ o = 8) (hs : tbs s = tbs (qsg o) ++ [32]) : s ++ x ++ ⟨#[46, 32]⟩ ++ shF f = shF (.mk o x m t [f]) := by
  apply tb_inj; rw [tb_app, tb_app, tb_app, hs, tf_qu h]; simp; rfl
theorem sf_rel {o : Int} {x : ByteArray} {m : Int} {t u : Tm} {a : List Fm} {s : ByteArray} (h1 : 9 ≤ o) (h2 : o ≤ 14) (hs : tbs s = 32 :: (tbs (rsg o) ++ [32])) : shT t ++ s ++ shT u = shF (.mk o x m [t, u] a) := by
  apply tb_inj; rw [tb_app, tb_app, hs, tf_rel h1 h2]; simp
theorem sf_cong {x : ByteArray} {m : Int} {t u : Tm} {a : List Fm} {s : ByteArray} (hs : tbs s = 32 :: (tbs (rsg 15) ++ [32])) : shT t ++ s ++ shT u ++ (⟨#[32, 109, 111, 100, 32]⟩ ++ dec m.toNat) = shF (.mk 15 x m [t, u] a) := by
  apply tb_inj; rw [tb_app, tb_app, tb_app, tb_app, hs, tf_cong]; simp; rfl
end Go.Proofs.YtncgmnijgdfenaaDoor.Gl
