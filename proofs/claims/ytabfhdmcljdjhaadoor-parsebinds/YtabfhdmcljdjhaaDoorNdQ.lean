/- The nodes collected: AppendSeq, Collect. -/
import Derived.Test.YtabfhdmcljdjhaaDoorNdK
namespace Go.Proofs.YtabfhdmcljdjhaaDoor.Gl
open Go.RowKit Go.Shelf
set_option linter.unusedVariables false
attribute [local go_sem] Oper.semAt_some

def ndL (l : List Nd) : List Value := (l.map (fun x => (ndC x).toList)).flatten
theorem ndL_snoc (l : List Nd) (x : Nd) : ndL (l ++ [x]) = ndL l ++ (ndC x).toList := by simp [ndL]
theorem Tryd.infoNode : (Tryd.prog.info? 56).map (fun i => (i.zero, i.size, i.bytes)) = some (some (.agg #[.int .i64 0, .bool false, .int .i64 0, .int .i64 0, .string emp, .int .i64 0, .int .i64 0, .int .i64 0]), 8, 72) := by kernel_rfl
theorem cells_new (W : World) (vs : Array Value) (t : TypeId) : ∀ j u, vs.toList[j]? = some u → (W.alloc (.cells vs t)).cell? ((⟨W.heap.size, 0, none⟩ : Addr).add j) = some u := by
  intro j u h
  have e : (⟨W.heap.size, 0, none⟩ : Addr).add j = ⟨W.heap.size, j, none⟩ := by cases j <;> simp [Addr.add]
  rw [e]
  exact cells_at (World.alloc_heap_new W (.cells vs t)) j u (by simpa using h)
theorem owns8_below {w w' : World} {base size : Nat} {e : TypeId} {v : Value} {n : Nat} {xs : List Value} (h : w.ownsRow base e size v n xs) (hb : Below w.heap.size w w') : w'.ownsRow base e size v n xs := by
  refine h.kept (grown_of hb) ?_
  rcases h.2 with ⟨rfl, _⟩ | ⟨g, cap, cur, rfl, _⟩
  · exact .inl rfl
  · exact .inr (by simp [Value.ownBlock])

set_option maxRecDepth 100000 in
set_option maxHeartbeats 4000000 in
theorem appendSeq_at (W : World) (f : Fm) (Bf : Nat) (w : World) (hW : Below W.heap.size W w) (hb : BoxF w Bf f W) (hsz : f.size ≤ 500) :
    Calls Tryd.prog 25 #[.slice none 0 0, .func (.func 26) #[] #[.pointer (some ⟨Bf, 0, none⟩)]] w fun e w' => ∃ v, e = .returned v ∧ w'.ownsRow w.heap.size 56 8 v (ndF f 1).length (ndL (ndF f 1)) ∧ Below w.heap.size w w' := by
  obtain ⟨i0, hi, hz0, hz1, hz2⟩ := info_parts Tryd.infoNode
  refine (callsIn_wide (n := 8)).1 ?_
  refine callsIn_of_wp_marks Tryd.func25 rfl trivial ?_ rfl
  simp only [Tryd.ntmps25, List.size_toArray, List.length_cons, List.length_nil, Nat.reduceAdd, Nat.reduceSub, Array.replicate_succ, Array.replicate_zero, List.push_toArray, List.append_toArray, List.nil_append, List.cons_append]
  gi_wp2
  obtain ⟨w4, hw4⟩ : ∃ w4, w.alloc (.cells #[.slice none 0 0] 52) = w4 := ⟨_, rfl⟩
  have hB4 : Below w.heap.size w w4 := by rw [← hw4]; exact (Below.refl _ _).alloc (Nat.le_refl _) _
  have hbn : Boxed w4 w.heap.size 52 (.slice none 0 0) := by rw [← hw4]; exact Boxed.new w _ _
  have hbf : BoxF w4 Bf f W := by obtain ⟨c0, c1, c2, c3, c4, hx, hr⟩ := hb; exact ⟨c0, c1, c2, c3, c4, (hB4.block Bf (Array.getElem?_eq_some_iff.1 hx).1).trans hx, hr⟩
  rw [hw4]
  clear hw4
  refine wpIn_rangeFunc_ownH rfl (by omega) (gf := 26) (lb := #[.pointer (some ⟨Bf, 0, none⟩)]) rfl trivial (enters_of Tryd.func26 (by kernel_rfl) rfl)
    (nodes_stops (fun x => Sz x.name.size) W _ w.heap.size Bf f w4 hW.size (hW.trans (hB4.mono hW.size)) hB4.size hbf hbf.sz) (fun h k => h.trans k) (Kp.put hB4.size) (Below.refl _ _) (fun _ => rfl)
    (fun pre W' => (∃ v, Boxed W' w.heap.size 52 v ∧ W'.ownsRow w.heap.size 56 8 v pre.length (ndL (vals pre)) ∧ True) ∧ Below w.heap.size w W')
    (fun c pre W' => False)
    (OwnFrom.and (Own.from (holdsRow_own _ _ _ _ _ _ _ (fun _ _ => True)) _) (ownFrom_below (Nat.le_refl _) hB4.size))
    (fun c => ownFrom_pure _ _)
    ⟨⟨_, hbn, World.ownsRow_nil .., trivial⟩, hB4⟩
    (fun y a' W' => ∃ Bx, w.heap.size < Bx ∧ W'.heap[Bx]? = some (Obj.cells (ndC y.1) 56) ∧ a' = { tmps := #[.slice none 0 0, .func (.func 26) #[] #[.pointer (some ⟨Bf, 0, none⟩)], .pointer (some ⟨w.heap.size, 0, none⟩), undef, .slice none 0 0, .pointer (some ⟨Bx, 0, none⟩), .func (.func 26) #[] #[.pointer (some ⟨Bf, 0, none⟩)], ndV y.1, undef, undef, undef, undef, undef], defers := [] })
    ?hAx ?assign ?body ?done ?stop
  case hAx =>
    rintro x a' s X Y row ⟨Bx, h1, h2, h3⟩ hg hr
    exact ⟨Bx, h1, cells_own 0 (fun _ : Unit => Bx) (fun _ => ndC x.1) _ _ s X Y row h2 hg hr, h3⟩
  case assign =>
    rintro l pre x W' K ⟨⟨v, h1, h2, -⟩, h4⟩ hK
    have hBa : Below W'.heap.size W' (W'.alloc (Obj.cells (ndC x.1) 56)) := (Below.refl _ _).alloc (Nat.le_refl _) _
    gi_wp2
    exact hK _ _ (keeps_of hBa) (Kp.of hBa h4.size) ⟨⟨v, box_keep h1 hBa, owns8_below h2 hBa, trivial⟩, h4.trans (hBa.mono h4.size)⟩ ⟨W'.heap.size, h1.lt, World.alloc_heap_new _ _, rfl⟩
  case body =>
    rintro l pre x a' W' hl _ ⟨⟨v, hc, hrow, -⟩, hB⟩ ⟨Bx, hBx, hx, rfl⟩ hlt
    rw [ndF_len] at hlt
    have HV : Hid (ndL (vals (pre ++ [x])) = ndL (vals pre) ++ (ndC x.1).toList) := by show _ = _; rw [vals_snoc, ndL_snoc]
    obtain ⟨x, hz⟩ := x
    dsimp only at hx HV ⊢
    have e0 := cells_at hx 0 _ rfl
    have e1 := cells_at hx 1 _ rfl
    have e2 := cells_at hx 2 _ rfl
    have e3 := cells_at hx 3 _ rfl
    have e4 := cells_at hx 4 _ rfl
    have e5 := cells_at hx 5 _ rfl
    have e6 := cells_at hx 6 _ rfl
    have e7 := cells_at hx 7 _ rfl
    have hcc := hc.cell
    gi_wp2_with (gi_at_builtin; refine wpListIn_append_own _ rfl _ _ 52 rfl w.heap.size 56 i0 _ 8 72 Tryd.underlying52 hi hz0 hz1 hz2 rfl (by decide) _ _ _ rfl (hrow.alloc _) ⟨W'.heap.size, 0, none⟩ 1 1 (ndC x).toList rfl rfl (cells_new W' (ndC x) _) (by intro u hu; simp at hu; rcases hu with rfl | rfl | rfl | rfl | rfl | rfl | rfl | rfl <;> rfl) (by unfold maxLen; omega) (by omega) (by have := hB.size; simp; omega) ?_; intro v' w1 hown' hgrow _; obtain ⟨g', cap', rfl⟩ := ownsRow_succ hown'; obtain ⟨hv1, hv2, hr2, hk2, hb2⟩ := hc.appended (by decide) hrow hB.size (Nat.le_refl _) hown' hgrow; have hc1 := hv1.cell; have hf1 := hv1.frozen)
    have hBa : Below W'.heap.size W' (W'.alloc (.cells (ndC x) 56)) := (Below.refl _ _).alloc (Nat.le_refl _) _
    exact ⟨hk2.from _, (Kp.of hBa hB.size).trans ((kp_grow (hrow.alloc _) hgrow (by unfold WalkTy; decide) (by have := hB.size; simp; omega)).trans (kp_set hv1 (by unfold WalkTy; decide) (Nat.le_refl _) _)), ⟨_, hv2, by rw [HV.out, List.length_append]; exact hr2⟩, hB.trans hb2⟩
  case done =>
    rintro D ys W' hD hS ⟨⟨v, hc, hrow, -⟩, hB⟩ hK
    have HE : Hid (vals ys = ndF f 1) := hS
    have hcc := hc.cell
    have hlen : (ndF f 1).length = ys.length := by rw [← HE.out, vals_len]
    rw [HE.out, ← hlen] at hrow
    gi_wp2
    refine ⟨by simp, .inl ⟨_, _, rfl, run_takeDeferred hK, ?_⟩⟩
    exact ⟨_, results_tmp rfl _ _ _, v, rfl, ownsRow_putObj hrow _ hK rfl, below_put hB (Nat.le_trans hB4.size hD)⟩
  case stop =>
    rintro D c ys W' hD hS h hK
    exact h.elim
set_option maxHeartbeats 2000000 in
theorem collect_at (W : World) (f : Fm) (Bf : Nat) (w : World) (hW : Below W.heap.size W w) (hb : BoxF w Bf f W) (hsz : f.size ≤ 500) :
    Calls Tryd.prog 16 #[.func (.func 26) #[] #[.pointer (some ⟨Bf, 0, none⟩)]] w fun e w' => ∃ v, e = .returned v ∧ w'.ownsRow w.heap.size 56 8 v (ndF f 1).length (ndL (ndF f 1)) ∧ Below w.heap.size w w' := by
  have AC := appendSeq_at W f Bf w hW hb hsz
  generalize (ndF f 1) = L at *
  go_enter Tryd.func16, Tryd.ntmps16
  go_wp2_with (fail)
  refine AC.mono ?_
  rintro e w2 ⟨v, rfl, hO, hB⟩
  go_wp2
  go_ret
  exact ⟨v, rfl, hO, hB⟩
end Go.Proofs.YtabfhdmcljdjhaaDoor.Gl
