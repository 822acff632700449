/- The variables as the row lists them: what the walks ask. -/
import Derived.Test.YtabfhdmcljdjhaaDoorRows
import Derived.Test.YtabfhdmcljdjhaaDoorLyA
import Derived.LaidMore
import Derived.OpenShut
import Derived.Stop.LaidErr
import Derived.Lib.LaidTab
import Derived.Lib.Strings
namespace Go.Proofs.YtabfhdmcljdjhaaDoor.Gl
open Go.RowKit
set_option linter.unusedVariables false

def strsD {H : Type} (l : List (List UInt8)) : DataW H := .agg (l.map fun b => .lit (.string b))
theorem cells_of_strs {H : Type} {enc : TypeId × Value → H} {P : Program} {w : World} {base : Nat} {sp : Nat → Bool} {held : Bool} {fuel : Nat} {t e : TypeId} {n : Nat} {cs : List Value} {l : List (List UInt8)} {p : List MemPlace}
    (ht : P.underlying t = some (.array n e)) (he : P.underlying e = some .string) (hce : P.cellsOf e = 1) (hct : P.cellsOf t = n)
    (h : DataW.trod enc P w base sp held fuel t cs = some (strsD l, p)) : cs = l.map fun b => Value.string ⟨b.toArray⟩ := by
  obtain ⟨xs, m, _, hx, hlen, hxl, hel⟩ := DataW.trod_array ht h
  have hxs : xs.map (·.1) = l.map fun b => (DataW.lit (.string b) : DataW H) := (DataW.agg.inj (Prod.mk.inj hx).1).symm
  have hll : l.length = n := by
    have := congrArg List.length hxs
    simp only [List.length_map] at this
    omega
  apply List.ext_getElem?
  intro i
  by_cases hi : i < n
  · have hk := hel i hi
    have hxi : xs[i]? = some (xs[i]'(by omega)) := List.getElem?_eq_getElem _
    rw [hxi, hce] at hk
    obtain ⟨s, hc, hy, _⟩ := DataW.trod_string he hk
    have h1 : cs[i]? = some (.string s) := by
      have := congrArg (·[0]?) hc
      simpa [List.getElem?_take, List.getElem?_drop] using this
    have h2 : (xs.map (·.1))[i]? = some (DataW.lit (.string s.data.toList) : DataW H) := by rw [List.getElem?_map, hxi, hy]; rfl
    rw [hxs, List.getElem?_map, Option.map_eq_some_iff] at h2
    obtain ⟨b, hb, hbe⟩ := h2
    simp only [DataW.lit.injEq, Lit.string.injEq] at hbe
    rw [h1, List.getElem?_map, hb, hbe]
    show _ = some (Value.string ⟨s.data.toList.toArray⟩)
    rw [Array.toArray_toList]
  · rw [List.getElem?_eq_none (by omega), List.getElem?_eq_none (by simp; omega)]
abbrev laidL : List (String × DataW Unit) := Rows.parseBracketsRow.laid
theorem Tryd.rowErr (u : TypeId) (h : Tryd.prog.typeName? 3 u = some "*errors.errorString") : u = 117 :=
  typeName_ptr_named (nm := "errors.errorString") (by kernel_rfl) (by kernel_rfl) (by decide) u h
theorem Tryd.cellsT (h : True) : Tryd.prog.cellsOf 119 = 1 ∧ Tryd.prog.cellsOf 9 = 1 ∧ Tryd.prog.cellsOf 93 = 18 := ⟨by kernel_rfl, by kernel_rfl, by kernel_rfl⟩
theorem sg_of_laid {W : World} (h : laidMetH Tryd.prog laidL W) : Sg W := by
  rw [MakeChecks.laidMetH_plain _ _ _ (by kernel_rfl)] at h
  have h3 : laidMet Tryd.prog [("strconv.ErrRange", Rows.laid_strconv_ErrRange), ("strconv.ErrSyntax", Rows.laid_strconv_ErrSyntax), ("tabard/lex.signs", Rows.laid_tabard_lex_signs)] W := h.tail.tail.tail
  obtain ⟨c1, c2, c3⟩ := Tryd.cellsT trivial
  have gR : Tryd.prog.globalNamed "strconv.ErrRange" = some 2 := by kernel_rfl
  have gS : Tryd.prog.globalNamed "tabard/lex.signs" = some 0 := by kernel_rfl
  obtain ⟨a, s, hv, _, _, _⟩ := laid_sentinel h3 gR (by kernel_rfl) Tryd.underlying90 Tryd.rowErr Tryd.underlying117 Tryd.underlying119 rfl rfl Tryd.underlying9 c1 c2
  obtain ⟨ps, ⟨g, t, cs, fuel, p, q, hg, ht, hvar, hd, _, _⟩, _⟩ := h3.tail.tail
  obtain rfl := Option.some.inj (gS.symm.trans hg)
  obtain rfl := Option.some.inj ((show (Tryd.prog.globals[0]?).map (·.type) = some 93 by kernel_rfl).symm.trans ht)
  have e : cs.toList = sgnArr.toList := cells_of_strs (l := [[40], [41], [91], [93], [44], [46], [43], [45], [42], [61], [33, 61], [60, 61], [62, 61], [60], [62], [45, 62], [60, 45, 62], [126]]) Tryd.underlying93 Tryd.underlying9 c2 c3 hd
  have e' : cs = sgnArr := Array.toList_inj.1 e
  subst e'
  refine ⟨?_, ⟨_, _, by have := World.var?_cell gR hv 0; simpa using this⟩⟩
  unfold World.var? at hvar
  simp only [hg, Option.bind_some] at hvar
  split at hvar
  · rename_i cs t fr heq
    cases hvar
    exact ⟨_, _, heq⟩
  · cases hvar
end Go.Proofs.YtabfhdmcljdjhaaDoor.Gl
