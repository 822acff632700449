/- The document's Formula, whole. -/
import Derived.Test.YtncgmnijgdfenaaDoorShW
import Derived.Test.YtncgmnijgdfenaaDoorShX
import Derived.Test.YtncgmnijgdfenaaDoorShY
import Derived.Test.YtncgmnijgdfenaaDoorShZ
namespace Go.Proofs.YtncgmnijgdfenaaDoor.Gl
open Go Go.RowKit
set_option linter.unusedVariables false
set_option linter.unusedSimpArgs false

set_option maxRecDepth 100000 in
set_option maxHeartbeats 4000000 in
theorem rformula_txt (W : World) : ∀ f : Fm, f.all (wellT nmB) (wellF nmB) = true → f.all nT nF = true → f.size ≤ 500 → ∀ c0 c1 c2 c3 c4, RdF W f c0 c1 c2 c3 c4 → RF W f c0 c1 c2 c3 c4 := by
  refine Fm.ind (fun o x m t a ih hw hn hsz c0 c1 c2 c3 c4 hr => ?_)
  obtain ⟨hnx, hnt, hna⟩ := fll_own hn
  obtain ⟨hwx, hwt, hwa⟩ := fll_own hw
  rw [RdF] at hr
  obtain ⟨rfl, rfl, rfl, hz, ⟨bo, bcap, rfl, hblc, hbcz, hT⟩, ao, cap, rfl, hlc, hcz, hA⟩ := hr
  have hshp := well_fm hwx
  rw [Fm.size] at hsz
  have FL : ∀ f ∈ a, f.all (wellT nmB) (wellF nmB) = true → f.all nT nF = true → (shF f).size ≤ 1000000 := fun f hf h1 h2 => by
    have := fm_len f h1 h2
    have := Fm.size_mem hf
    rw [tb_len] at *
    omega
  have TL : ∀ u ∈ t, u.all (wellT nmB) = true → u.all nT = true → (shT u).size ≤ 1000000 := fun u hu h1 h2 => by
    have := tm_len u h1 h2
    have := Tm.size_mem hu
    rw [tb_len] at *
    omega
  have IH : ∀ f ∈ a, f.all (wellT nmB) (wellF nmB) = true → f.all nT nF = true → ∀ c0 c1 c2 c3 c4, RdF W f c0 c1 c2 c3 c4 → RF W f c0 c1 c2 c3 c4 := fun f hf h1 h2 => ih f hf h1 h2 (by have := Fm.size_mem hf; omega)
  have TH : ∀ u ∈ t, u.all (wellT nmB) = true → u.all nT = true → ∀ c0 c1 c2 c3, RdT W u c0 c1 c2 c3 → RT W u c0 c1 c2 c3 := fun u hu h1 h2 => rterm_txt W u h1 h2 (by have := Tm.size_mem hu; omega)
  cases hshp with
  | leaf ho =>
    rcases ho with rfl | rfl
    · exact rf_leaf0 W bo ao bcap cap
    · exact rf_leaf1 W bo ao bcap cap
  | @not f =>
    obtain ⟨g, of, d0, d1, d2, d3, d4, rfl, hd, hrt⟩ := rdfl_one hA
    exact rf_not W f emp bo g of bcap cap d0 d1 d2 d3 d4 hd (IH f (by simp) (fl_one hwa) (fl_one hna) _ _ _ _ _ hrt) (FL f (by simp) (fl_one hwa) (fl_one hna)) (by decide) hlc hcz
  | @pair o f f' ho1 ho2 =>
    obtain ⟨g, of, d0, d1, d2, d3, d4, e0, e1, e2, e3, e4, rfl, ⟨hd, hrt⟩, hd', hru⟩ := rdfl_two hA
    have i1 := IH f (by simp) (fl_two hwa).1 (fl_two hna).1 _ _ _ _ _ hrt
    have i2 := IH f' (by simp) (fl_two hwa).2 (fl_two hna).2 _ _ _ _ _ hru
    have s1 := FL f (by simp) (fl_two hwa).1 (fl_two hna).1
    have s2 := FL f' (by simp) (fl_two hwa).2 (fl_two hna).2
    have ho : o = 3 ∨ o = 4 ∨ o = 5 ∨ o = 6 := by omega
    rcases ho with rfl | rfl | rfl | rfl
    · exact rf_pair3 W f f' bo g of bcap cap d0 d1 d2 d3 d4 e0 e1 e2 e3 e4 hd hd' i1 i2 s1 s2 hlc hcz
    · exact rf_pair4 W f f' bo g of bcap cap d0 d1 d2 d3 d4 e0 e1 e2 e3 e4 hd hd' i1 i2 s1 s2 hlc hcz
    · exact rf_pair5 W f f' bo g of bcap cap d0 d1 d2 d3 d4 e0 e1 e2 e3 e4 hd hd' i1 i2 s1 s2 hlc hcz
    · exact rf_pair6 W f f' bo g of bcap cap d0 d1 d2 d3 d4 e0 e1 e2 e3 e4 hd hd' i1 i2 s1 s2 hlc hcz
  | @qu o x f ho hx =>
    obtain ⟨g, of, d0, d1, d2, d3, d4, rfl, hd, hrt⟩ := rdfl_one hA
    have hxs := name_short ((nmB_iff x).1 hx)
    have i1 := IH f (by simp) (fl_one hwa) (fl_one hna) _ _ _ _ _ hrt
    have s1 := FL f (by simp) (fl_one hwa) (fl_one hna)
    rcases ho with rfl | rfl
    · exact rf_ex W f x bo g of bcap cap d0 d1 d2 d3 d4 hd i1 s1 (by omega) hlc hcz
    · exact rf_all W f x bo g of bcap cap d0 d1 d2 d3 d4 hd i1 s1 (by omega) hlc hcz
  | @rel o t u ho1 ho2 =>
    obtain ⟨g, of, d0, d1, d2, d3, e0, e1, e2, e3, rfl, ⟨hd, hrt⟩, hd', hru⟩ := rdtl_two hT
    have i1 := TH t (by simp) (tl_two hwt).1 (tl_two hnt).1 _ _ _ _ hrt
    have i2 := TH u (by simp) (tl_two hwt).2 (tl_two hnt).2 _ _ _ _ hru
    have s1 := TL t (by simp) (tl_two hwt).1 (tl_two hnt).1
    have s2 := TL u (by simp) (tl_two hwt).2 (tl_two hnt).2
    have ho : o = 9 ∨ o = 10 ∨ o = 11 ∨ o = 12 ∨ o = 13 ∨ o = 14 := by omega
    rcases ho with rfl | rfl | rfl | rfl | rfl | rfl
    · exact rf_atom9 W t u 0 ao g of bcap cap d0 d1 d2 d3 e0 e1 e2 e3 hd hd' i1 i2 s1 s2 hblc hbcz (by decide) (by decide)
    · exact rf_atom10 W t u 0 ao g of bcap cap d0 d1 d2 d3 e0 e1 e2 e3 hd hd' i1 i2 s1 s2 hblc hbcz (by decide) (by decide)
    · exact rf_atom11 W t u 0 ao g of bcap cap d0 d1 d2 d3 e0 e1 e2 e3 hd hd' i1 i2 s1 s2 hblc hbcz (by decide) (by decide)
    · exact rf_atom12 W t u 0 ao g of bcap cap d0 d1 d2 d3 e0 e1 e2 e3 hd hd' i1 i2 s1 s2 hblc hbcz (by decide) (by decide)
    · exact rf_atom13 W t u 0 ao g of bcap cap d0 d1 d2 d3 e0 e1 e2 e3 hd hd' i1 i2 s1 s2 hblc hbcz (by decide) (by decide)
    · exact rf_atom14 W t u 0 ao g of bcap cap d0 d1 d2 d3 e0 e1 e2 e3 hd hd' i1 i2 s1 s2 hblc hbcz (by decide) (by decide)
  | @cong m t u hm =>
    obtain ⟨g, of, d0, d1, d2, d3, e0, e1, e2, e3, rfl, ⟨hd, hrt⟩, hd', hru⟩ := rdtl_two hT
    exact rf_atom15 W t u m ao g of bcap cap d0 d1 d2 d3 e0 e1 e2 e3 hd hd' (TH t (by simp) (tl_two hwt).1 (tl_two hnt).1 _ _ _ _ hrt) (TH u (by simp) (tl_two hwt).2 (tl_two hnt).2 _ _ _ _ hru) (TL t (by simp) (tl_two hwt).1 (tl_two hnt).1) (TL u (by simp) (tl_two hwt).2 (tl_two hnt).2) hblc hbcz (by omega) (of_decide_eq_true hnx)
end Go.Proofs.YtncgmnijgdfenaaDoor.Gl
