/- The names in a term: termNames. -/
import Derived.Test.YtiihabecncnbcaaNdJ
import Derived.Test.YtiihabecncnbcaaLyS
import Derived.Test.YtiihabecncnbcaaGlW
import Derived.Maps.AppendAt
namespace Go.Proofs.Ytiihabecncnbcaa.Gl
open Go.RowKit Go.Shelf
set_option linter.unusedVariables false
attribute [local go_sem] Oper.semAt_some

set_option maxHeartbeats 2000000 in
theorem clone_at (t : ByteArray) (w : World) (ht : t.size ≤ 4096) :
    Calls Try.prog 57 #[.string t] w fun e w' => e = .returned (.string t) ∧ Below w.heap.size w w' := by
  have K : Hid (∀ w, Calls Try.prog 78 #[.string t] w fun e w' => e = .returned (.string t) ∧ Below w.heap.size w w') := fun w => clone_lib t w (by omega)
  go_enter Try.func57, Try.ntmps57
  go_wp2_with (go_at_call 78; refine (K.out _).mono ?_; rintro e w2 ⟨rfl, hB2⟩)
  go_ret
  exact ⟨rfl, hB2⟩
theorem kp_grow {w w' : World} {n₀ k size : Nat} {e : TypeId} {v : Value} {xs : List Value} (hrow : w.ownsRow n₀ e size v k xs) (hg : w.grownBy w' v.ownBlock) (he : ¬ WalkTy e) (hn : n₀ ≤ w.heap.size) : Kp n₀ w w' := by
  rcases hrow.2 with ⟨rfl, _⟩ | ⟨g, cap, cur, rfl, hb, hh, _⟩
  · exact ⟨(Below.refl _ _).grown hg hn (fun k e => by cases e), fun k vs t m _ hk => (hg.block k (Array.getElem?_eq_some_iff.1 hk).1 (fun e => by cases e)).trans hk⟩
  · exact Kp.one hg hn hb (fun vs t m h => by rw [hh] at h; cases h; exact he)
/-- a name behind others, by append, the list in a box -/
theorem push_facts {W' w5 : World} {n₀ B K : Nat} {v : Value} {L : List ByteArray} (s : ByteArray) (hv : Boxed W' B 28 v) (hrow : W'.ownsRow n₀ 9 1 v L.length (cellsS L)) (hn₀ : n₀ ≤ W'.heap.size) (hB : n₀ ≤ B) (hB5 : Below W'.heap.size W' w5) (hk : L.length ≤ 100000) :
    ∃ g' c' w7, (Builtin.append_ #[28, 28] 28 #[v, .slice (some ⟨w5.heap.size, 0, none⟩) 1 1]).run Try.prog (w5.alloc (.cells #[.string s] 9)) = .ok (.slice (some ⟨g', 0, none⟩) (L.length + 1) c') w7 ∧
      w5.cell? ⟨B, 0, none⟩ = some v ∧ (w5.alloc (.cells #[.string s] 9)).cell? ⟨B, 0, none⟩ = some v ∧ w7.cell? ⟨B, 0, none⟩ = some v ∧ w7.frozen? ⟨B, 0, none⟩ = false ∧
      Boxed (w7.setCell ⟨B, 0, none⟩ (.slice (some ⟨g', 0, none⟩) (L.length + 1) c')) B 28 (.slice (some ⟨g', 0, none⟩) (L.length + 1) c') ∧ (w7.setCell ⟨B, 0, none⟩ (.slice (some ⟨g', 0, none⟩) (L.length + 1) c')).ownsRow n₀ 9 1 (.slice (some ⟨g', 0, none⟩) (L.length + 1) c') (L ++ [s]).length (cellsS (L ++ [s])) ∧
      KeepsFrom K W' (w7.setCell ⟨B, 0, none⟩ (.slice (some ⟨g', 0, none⟩) (L.length + 1) c')) ∧ Kp n₀ W' (w7.setCell ⟨B, 0, none⟩ (.slice (some ⟨g', 0, none⟩) (L.length + 1) c')) := by
  obtain ⟨i0, hi, hz0, hz1, hz2⟩ := info_parts Try.infoStr
  have hv5 := box_keep hv hB5
  have hrow5 := owns_below hrow hB5
  have hn5 : n₀ ≤ w5.heap.size := Nat.le_trans hn₀ hB5.size
  obtain ⟨v', w7, hrun, h1, h2, -⟩ := run_append_own (P := Try.prog) (w5.alloc (.cells #[.string s] 9)) n₀ 28 28 9 i0 (.string emp) 1 16 Try.underlying28 hi hz0 hz1 hz2 rfl (by decide) v L.length (cellsS L) (hrow5.alloc _) ⟨w5.heap.size, 0, none⟩ 1 1 [.string s] rfl (cell_one_new _ _ _) (by intro u hu; simp at hu; subst hu; rfl) (by unfold maxLen; omega) (by omega) (by simp; omega)
  obtain ⟨g', c', rfl⟩ := ownsRow_succ h1
  obtain ⟨a1, a2, a3, a4, a5⟩ := hv5.appended (by decide) hrow5 hn5 hB h1 h2
  have e1 : cellsS (L ++ [s]) = cellsS L ++ [.string s] := by simp [cellsS]
  refine ⟨g', c', w7, hrun, hv5.cell, (hv5.alloc _).cell, a1.cell, a1.frozen, a2, by rw [e1, List.length_append]; exact a3, (keeps_of hB5).trans (a4.from _), ?_⟩
  have hBa : Below w5.heap.size w5 (w5.alloc (.cells #[.string s] 9)) := (Below.refl _ _).alloc (Nat.le_refl _) _
  exact (Kp.of hB5 hn₀).trans ((Kp.of hBa hn5).trans ((kp_grow (hrow5.alloc _) h2 (by unfold WalkTy; decide) (by simp; omega)).trans (kp_set a1 (by unfold WalkTy; decide) hB _)))
/-- an append at a step of a region that draws its order -/
theorem step_app {F : Fence} {n : Nat} {ops : Array Oper} {o : Oper} {a : Act} {w w' : World} {K : Act → World → Prop} {Q : Exit → Act → World → Prop} {E : Prop} {v1 v2 v' : Value} {s x : Operand} {t : TypeId} (hg : o.guard = none)
    (hop : o.op = .call { callee := .builtin .append, args := #[s, x], argTypes := #[t, t] }) (hty : o.type = t) (hs : a.eval s = v1) (hx : a.eval x = v2) (hrun : (Builtin.append_ #[t, t] t #[v1, v2]).run Try.prog w = .ok v' w') (hK : K (a.put o.dst v') w') :
    if Region.wanted o (yielded ops a.tmps) = true then Oper.wpIn F n Try.prog o a w K Q else E := by
  rw [if_pos (by simp [Region.wanted, hg])]
  unfold Oper.wpIn
  refine ⟨by simp [Oper.about, hop, resolve, Target.leads, Sem.run_pure], ?_⟩
  rw [Oper.semAt_plain F _ _ (by rw [hop]; intro c hc'; cases hc')]
  simp [execOp, hop, resolve, invoke, builtin, hs, hx, hty, hrun, Result.andThen]
  exact hK
/- the names of nodes -/
def nms (l : List Nd) : List ByteArray := (l.filter (fun x => x.top == 1)).map (·.name)
theorem nms_yes {l : List Nd} {x : Nd} (h : x.top = 1) : nms (l ++ [x]) = nms l ++ [x.name] := by simp [nms, List.filter_append, h]
theorem nms_no {l : List Nd} {x : Nd} (h : ¬ x.top = 1) : nms (l ++ [x]) = nms l := by simp [nms, List.filter_append, h]
theorem nms_len (l : List Nd) : (nms l).length ≤ l.length := by simp [nms]; exact List.length_filter_le _ _
abbrev PdN (x : Nd) : Prop := x.top = 1 → x.name.size ≤ 4096
def valsN (l : List (NdP PdN)) : List Nd := l.map (·.1)
theorem valsN_snoc (l : List (NdP PdN)) (x : NdP PdN) : valsN (l ++ [x]) = valsN l ++ [x.1] := by simp [valsN]
theorem valsN_len (l : List (NdP PdN)) : (valsN l).length = l.length := by simp [valsN]
theorem srt_own_tog (T : List ByteArray) : cmpt (tl (srt T)) = togL T := by
  have : tl (srt T) = (tl T).mergeSort fun x y => decide (x ≤ y) := by
    unfold srt
    rw [tl, un, List.map_map]
    exact (List.map_congr_left (fun l _ => by rfl)).trans (List.map_id _)
  rw [this]
  exact cmpt_tog T

set_option maxRecDepth 100000 in
set_option maxHeartbeats 4000000 in
theorem termNames_at (W : World) (t : Tm) (v : Value) (w : World) (hv : TmV W t v) (hW : Below W.heap.size W w) (hsz : t.size ≤ 1000) (hP : ∀ x ∈ ndT t 1, PdN x) :
    Calls Try.prog 43 #[v] w fun e w' => ∃ v', e = .returned v' ∧ w'.ownsRow w.heap.size 9 1 v' (togL (nms (ndT t 1))).length (cellsS (togL (nms (ndT t 1)))) ∧ Below w.heap.size w w' := by
  obtain ⟨c0, c1, c2, c3, rfl, hr⟩ := hv
  have hr' := hr
  obtain ⟨o, n, x, a⟩ := t
  rw [RdT] at hr
  obtain ⟨rfl, rfl, rfl, hbd, ao, ca, rfl, -⟩ := hr
  obtain ⟨al, hal⟩ : ∃ al, a.length = al := ⟨_, rfl⟩
  rw [hal] at hr' ⊢
  generalize Tm.mk o n x a = t at *
  refine (callsIn_wide (n := 8)).1 ?_
  have hmx : Try.prog.follows .mixedOrders = true := by kernel_rfl
  refine callsIn_of_wp_marks Try.func43 rfl trivial ?_ rfl
  simp only [Try.ntmps43, List.size_toArray, List.length_cons, List.length_nil, Nat.reduceAdd, Nat.reduceSub, Array.replicate_succ, Array.replicate_zero, List.push_toArray, List.append_toArray, List.nil_append, List.cons_append]
  gi_wp2
  refine ⟨trivial, ?_⟩
  refine (callsIn_wide.2 (termNodes_at _ _ _ _ _ _ _)).mono ?_
  rintro e w4 ⟨rfl, hw4⟩
  obtain ⟨b, hb⟩ : ∃ b, Obj.cells #[.int .i64 o, .int .i64 n, .string x, .slice ao al ca] 58 = b := ⟨_, rfl⟩
  rw [hb] at hw4
  have hB4 : Below w.heap.size w w4 := by rw [hw4]; exact (((Below.refl _ _).alloc (Nat.le_refl _) _).alloc (by simp) _).alloc (by simp; omega) _
  have hbn : Boxed w4 (w.heap.size + 1) 28 (.slice none 0 0) := by
    rw [hw4]; have := (Boxed.new (w.alloc b) 28 (.slice none 0 0)).alloc b; rwa [World.size_alloc] at this
  have hbf : BoxT w4 (w.heap.size + 2) t W := ⟨_, _, _, _, by rw [hw4, hb]; have := World.alloc_heap_new ((w.alloc b).alloc (.cells #[.slice none 0 0] 28)) b; rwa [World.size_alloc, World.size_alloc] at this, hr'⟩
  clear hw4 hb
  gi_wp2
  refine wpIn_rangeFunc_ownH rfl (by omega) (gf := 77) (lb := #[.pointer (some ⟨w.heap.size + 2, 0, none⟩)]) rfl trivial (enters_of Try.func77 (by kernel_rfl) rfl)
    (termNodes_stops PdN W _ w.heap.size (w.heap.size + 2) t w4 hW.size (hW.trans (hB4.mono hW.size)) hB4.size hbf hP) (fun h k => h.trans k) (Kp.put hB4.size) (Below.refl _ _) (fun _ => rfl)
    (fun pre W' => (∃ v, Boxed W' (w.heap.size + 1) 28 v ∧ W'.ownsRow w.heap.size 9 1 v (nms (valsN pre)).length (cellsS (nms (valsN pre))) ∧ True) ∧ Below w.heap.size w W')
    (fun c pre W' => False)
    (OwnFrom.and (Own.from (holdsRow_own _ _ _ _ _ _ _ (fun _ _ => True)) _) (ownFrom_below (Nat.le_refl _) hB4.size))
    (fun c => ownFrom_pure _ _)
    ⟨⟨_, hbn, World.ownsRow_nil .., trivial⟩, hB4⟩
    (fun y a' W' => ∃ Bx, w.heap.size + 1 < Bx ∧ W'.heap[Bx]? = some (Obj.cells (ndC y.1) 65) ∧ a' = { tmps := #[.agg #[.int .i64 o, .int .i64 n, .string x, .slice ao al ca], .pointer (some ⟨w.heap.size, 0, none⟩), .slice none 0 0, .pointer (some ⟨w.heap.size + 1, 0, none⟩), .pointer (some ⟨Bx, 0, none⟩), .agg #[.int .i64 o, .int .i64 n, .string x, .slice ao al ca], .func (.func 77) #[] #[.pointer (some ⟨w.heap.size + 2, 0, none⟩)], ndV y.1, undef, undef, undef, undef, undef, undef, undef, undef, undef, undef, undef, undef, undef, undef], defers := [] })
    ?hAx ?assign ?body ?done ?stop
  case hAx =>
    rintro x a' s X Y row ⟨Bx, h1, h2, h3⟩ hg hr
    exact ⟨Bx, h1, cells_own 0 (fun _ : Unit => Bx) (fun _ => ndC x.1) _ _ s X Y row h2 hg hr, h3⟩
  case assign =>
    rintro l pre x W' K ⟨⟨v, h1, h2, -⟩, h4⟩ hK
    have hBa : Below W'.heap.size W' (W'.alloc (Obj.cells (ndC x.1) 65)) := (Below.refl _ _).alloc (Nat.le_refl _) _
    gi_wp2
    exact hK _ _ (keeps_of hBa) (Kp.of hBa h4.size) ⟨⟨v, box_keep h1 hBa, owns_below h2 hBa, trivial⟩, h4.trans (hBa.mono h4.size)⟩ ⟨W'.heap.size, h1.lt, World.alloc_heap_new _ _, rfl⟩
  case body =>
    rintro l pre x a' W' hl _ ⟨⟨v, hc, hrow, -⟩, hB⟩ ⟨Bx, hBx, hx, rfl⟩ hlt
    rw [ndT_len] at hlt
    have hle : (nms (valsN pre)).length ≤ 1000 := by have := nms_len (valsN pre); rw [valsN_len] at this; omega
    obtain ⟨⟨dp, isT, op, top, nm, num, terms, args⟩, hz⟩ := x
    have e3 := cells_at hx 3 _ rfl
    have e4 := cells_at hx 4 _ rfl
    have HV : Hid (valsN (pre ++ [⟨⟨dp, isT, op, top, nm, num, terms, args⟩, hz⟩]) = valsN pre ++ [⟨dp, isT, op, top, nm, num, terms, args⟩]) := valsN_snoc _ _
    have hcc := hc.cell
    by_cases ht : top = 1
    · subst ht
      have HN : Hid (nms (valsN (pre ++ [⟨⟨dp, isT, op, 1, nm, num, terms, args⟩, hz⟩])) = nms (valsN pre) ++ [nm]) := by show _ = _; rw [HV.out]; exact nms_yes rfl
      have CL : Hid (∀ w, Calls Try.prog 57 #[.string nm] w fun e w' => e = .returned (.string nm) ∧ Below w.heap.size w w') := fun w => clone_at nm w (hz rfl)
      have PF : Hid (∀ w5, Below W'.heap.size W' w5 → _) := fun w5 h5 => push_facts (K := w4.heap.size) nm hc hrow hB.size (by omega) h5 (by omega)
      gi_wp2
      refine wpIn_region_any hmx ?_
      change wpAnyIn _ _ _ _ _ _ _ _ _ (World.drew _)
      refine wpAnyIn_ready (rs := [0, 1]) (by kernel_rfl) (by simp) ?_
      refine AllReadyIn.cons rfl (fun K hK => ?_) ?_
      · go_simp
        refine hK _ _ ?_
        clear hK K
        refine wpAnyIn_ready (rs := [1]) (by kernel_rfl) (by simp) ?_
        refine AllReadyIn.cons rfl (fun K hK => ?_) ?_
        · go_simp
          refine hK _ _ ?_
          clear hK K
          refine wpAnyIn_ready (rs := [2]) (by kernel_rfl) (by simp) ?_
          refine AllReadyIn.cons rfl (fun K hK => ?_) ?_
          · go_simp
            refine hK _ _ ?_
            clear hK K
            refine wpAnyIn_ready (rs := [3]) (by kernel_rfl) (by simp) ?_
            refine AllReadyIn.cons rfl (fun K hK => ?_) ?_
            · go_simp
              refine hK _ _ ?_
              clear hK K
              refine wpAnyIn_ready (rs := [4]) (by kernel_rfl) (by simp) ?_
              refine AllReadyIn.cons rfl (fun K hK => ?_) ?_
              · go_simp
                refine ⟨trivial, ?_⟩
                refine (CallsIn.inRound l (callsIn_wide.2 (CL.out _))).mono ?_
                rintro e w5 ⟨rfl, hB5⟩
                obtain ⟨g', c', w7, hrun, k1, k2, k3, k4, k5, k6, k7, k8⟩ := PF.out w5 ⟨hB5.os, hB5.tape, hB5.output, hB5.size, hB5.block⟩
                refine hK _ _ ?_
                clear hK K
                refine wpAnyIn_ready (rs := [5]) (by kernel_rfl) (by simp) ?_
                refine AllReadyIn.cons rfl (fun K hK => ?_) ?_
                · go_simp
                  refine hK _ _ ?_
                  clear hK K
                  refine wpAnyIn_ready (rs := [6]) (by kernel_rfl) (by simp) ?_
                  refine AllReadyIn.cons rfl (fun K hK => ?_) AllReadyIn.nil
                  refine step_app (by rfl) (by rfl) (by rfl) (by rfl) (by rfl) hrun ?_
                  refine hK _ _ ?_
                  clear hK K
                  refine wpAnyIn_ready (rs := [7]) (by kernel_rfl) (by simp) ?_
                  refine AllReadyIn.cons rfl (fun K hK => ?_) AllReadyIn.nil
                  go_simp
                  refine hK _ _ ?_
                  clear hK K
                  refine wpAnyIn_done (by kernel_rfl) ?_ _
                  gi_wp2
                  exact ⟨k7, k8, ⟨_, k5, by rw [HN.out]; exact ⟨k6, trivial⟩⟩, hB.trans k8.below⟩
                exact AllReadyIn.nil
              exact AllReadyIn.nil
            exact AllReadyIn.nil
          exact AllReadyIn.nil
        exact AllReadyIn.nil
      refine AllReadyIn.cons rfl (fun K hK => ?_) ?_
      · go_simp
        refine hK _ _ ?_
        clear hK K
        refine wpAnyIn_ready (rs := [0, 2]) (by kernel_rfl) (by simp) ?_
        refine AllReadyIn.cons rfl (fun K hK => ?_) ?_
        · go_simp
          refine hK _ _ ?_
          clear hK K
          refine wpAnyIn_ready (rs := [2]) (by kernel_rfl) (by simp) ?_
          refine AllReadyIn.cons rfl (fun K hK => ?_) ?_
          · go_simp
            refine hK _ _ ?_
            clear hK K
            refine wpAnyIn_ready (rs := [3]) (by kernel_rfl) (by simp) ?_
            refine AllReadyIn.cons rfl (fun K hK => ?_) ?_
            · go_simp
              refine hK _ _ ?_
              clear hK K
              refine wpAnyIn_ready (rs := [4]) (by kernel_rfl) (by simp) ?_
              refine AllReadyIn.cons rfl (fun K hK => ?_) ?_
              · go_simp
                refine ⟨trivial, ?_⟩
                refine (CallsIn.inRound l (callsIn_wide.2 (CL.out _))).mono ?_
                rintro e w5 ⟨rfl, hB5⟩
                obtain ⟨g', c', w7, hrun, k1, k2, k3, k4, k5, k6, k7, k8⟩ := PF.out w5 ⟨hB5.os, hB5.tape, hB5.output, hB5.size, hB5.block⟩
                refine hK _ _ ?_
                clear hK K
                refine wpAnyIn_ready (rs := [5]) (by kernel_rfl) (by simp) ?_
                refine AllReadyIn.cons rfl (fun K hK => ?_) ?_
                · go_simp
                  refine hK _ _ ?_
                  clear hK K
                  refine wpAnyIn_ready (rs := [6]) (by kernel_rfl) (by simp) ?_
                  refine AllReadyIn.cons rfl (fun K hK => ?_) AllReadyIn.nil
                  refine step_app (by rfl) (by rfl) (by rfl) (by rfl) (by rfl) hrun ?_
                  refine hK _ _ ?_
                  clear hK K
                  refine wpAnyIn_ready (rs := [7]) (by kernel_rfl) (by simp) ?_
                  refine AllReadyIn.cons rfl (fun K hK => ?_) AllReadyIn.nil
                  go_simp
                  refine hK _ _ ?_
                  clear hK K
                  refine wpAnyIn_done (by kernel_rfl) ?_ _
                  gi_wp2
                  exact ⟨k7, k8, ⟨_, k5, by rw [HN.out]; exact ⟨k6, trivial⟩⟩, hB.trans k8.below⟩
                exact AllReadyIn.nil
              exact AllReadyIn.nil
            exact AllReadyIn.nil
          exact AllReadyIn.nil
        refine AllReadyIn.cons rfl (fun K hK => ?_) ?_
        · go_simp
          refine hK _ _ ?_
          clear hK K
          refine wpAnyIn_ready (rs := [0, 3]) (by kernel_rfl) (by simp) ?_
          refine AllReadyIn.cons rfl (fun K hK => ?_) ?_
          · go_simp
            refine hK _ _ ?_
            clear hK K
            refine wpAnyIn_ready (rs := [3]) (by kernel_rfl) (by simp) ?_
            refine AllReadyIn.cons rfl (fun K hK => ?_) ?_
            · go_simp
              refine hK _ _ ?_
              clear hK K
              refine wpAnyIn_ready (rs := [4]) (by kernel_rfl) (by simp) ?_
              refine AllReadyIn.cons rfl (fun K hK => ?_) ?_
              · go_simp
                refine ⟨trivial, ?_⟩
                refine (CallsIn.inRound l (callsIn_wide.2 (CL.out _))).mono ?_
                rintro e w5 ⟨rfl, hB5⟩
                obtain ⟨g', c', w7, hrun, k1, k2, k3, k4, k5, k6, k7, k8⟩ := PF.out w5 ⟨hB5.os, hB5.tape, hB5.output, hB5.size, hB5.block⟩
                refine hK _ _ ?_
                clear hK K
                refine wpAnyIn_ready (rs := [5]) (by kernel_rfl) (by simp) ?_
                refine AllReadyIn.cons rfl (fun K hK => ?_) ?_
                · go_simp
                  refine hK _ _ ?_
                  clear hK K
                  refine wpAnyIn_ready (rs := [6]) (by kernel_rfl) (by simp) ?_
                  refine AllReadyIn.cons rfl (fun K hK => ?_) AllReadyIn.nil
                  refine step_app (by rfl) (by rfl) (by rfl) (by rfl) (by rfl) hrun ?_
                  refine hK _ _ ?_
                  clear hK K
                  refine wpAnyIn_ready (rs := [7]) (by kernel_rfl) (by simp) ?_
                  refine AllReadyIn.cons rfl (fun K hK => ?_) AllReadyIn.nil
                  go_simp
                  refine hK _ _ ?_
                  clear hK K
                  refine wpAnyIn_done (by kernel_rfl) ?_ _
                  gi_wp2
                  exact ⟨k7, k8, ⟨_, k5, by rw [HN.out]; exact ⟨k6, trivial⟩⟩, hB.trans k8.below⟩
                exact AllReadyIn.nil
              exact AllReadyIn.nil
            exact AllReadyIn.nil
          refine AllReadyIn.cons rfl (fun K hK => ?_) ?_
          · go_simp
            refine hK _ _ ?_
            clear hK K
            refine wpAnyIn_ready (rs := [0, 4]) (by kernel_rfl) (by simp) ?_
            refine AllReadyIn.cons rfl (fun K hK => ?_) ?_
            · go_simp
              refine hK _ _ ?_
              clear hK K
              refine wpAnyIn_ready (rs := [4]) (by kernel_rfl) (by simp) ?_
              refine AllReadyIn.cons rfl (fun K hK => ?_) ?_
              · go_simp
                refine ⟨trivial, ?_⟩
                refine (CallsIn.inRound l (callsIn_wide.2 (CL.out _))).mono ?_
                rintro e w5 ⟨rfl, hB5⟩
                obtain ⟨g', c', w7, hrun, k1, k2, k3, k4, k5, k6, k7, k8⟩ := PF.out w5 ⟨hB5.os, hB5.tape, hB5.output, hB5.size, hB5.block⟩
                refine hK _ _ ?_
                clear hK K
                refine wpAnyIn_ready (rs := [5]) (by kernel_rfl) (by simp) ?_
                refine AllReadyIn.cons rfl (fun K hK => ?_) ?_
                · go_simp
                  refine hK _ _ ?_
                  clear hK K
                  refine wpAnyIn_ready (rs := [6]) (by kernel_rfl) (by simp) ?_
                  refine AllReadyIn.cons rfl (fun K hK => ?_) AllReadyIn.nil
                  refine step_app (by rfl) (by rfl) (by rfl) (by rfl) (by rfl) hrun ?_
                  refine hK _ _ ?_
                  clear hK K
                  refine wpAnyIn_ready (rs := [7]) (by kernel_rfl) (by simp) ?_
                  refine AllReadyIn.cons rfl (fun K hK => ?_) AllReadyIn.nil
                  go_simp
                  refine hK _ _ ?_
                  clear hK K
                  refine wpAnyIn_done (by kernel_rfl) ?_ _
                  gi_wp2
                  exact ⟨k7, k8, ⟨_, k5, by rw [HN.out]; exact ⟨k6, trivial⟩⟩, hB.trans k8.below⟩
                exact AllReadyIn.nil
              exact AllReadyIn.nil
            refine AllReadyIn.cons rfl (fun K hK => ?_) ?_
            · go_simp
              refine ⟨trivial, ?_⟩
              refine (CallsIn.inRound l (callsIn_wide.2 (CL.out _))).mono ?_
              rintro e w5 ⟨rfl, hB5⟩
              obtain ⟨g', c', w7, hrun, k1, k2, k3, k4, k5, k6, k7, k8⟩ := PF.out w5 ⟨hB5.os, hB5.tape, hB5.output, hB5.size, hB5.block⟩
              refine hK _ _ ?_
              clear hK K
              refine wpAnyIn_ready (rs := [0, 5]) (by kernel_rfl) (by simp) ?_
              refine AllReadyIn.cons rfl (fun K hK => ?_) ?_
              · go_simp
                refine hK _ _ ?_
                clear hK K
                refine wpAnyIn_ready (rs := [5]) (by kernel_rfl) (by simp) ?_
                refine AllReadyIn.cons rfl (fun K hK => ?_) ?_
                · go_simp
                  refine hK _ _ ?_
                  clear hK K
                  refine wpAnyIn_ready (rs := [6]) (by kernel_rfl) (by simp) ?_
                  refine AllReadyIn.cons rfl (fun K hK => ?_) AllReadyIn.nil
                  refine step_app (by rfl) (by rfl) (by rfl) (by rfl) (by rfl) hrun ?_
                  refine hK _ _ ?_
                  clear hK K
                  refine wpAnyIn_ready (rs := [7]) (by kernel_rfl) (by simp) ?_
                  refine AllReadyIn.cons rfl (fun K hK => ?_) AllReadyIn.nil
                  go_simp
                  refine hK _ _ ?_
                  clear hK K
                  refine wpAnyIn_done (by kernel_rfl) ?_ _
                  gi_wp2
                  exact ⟨k7, k8, ⟨_, k5, by rw [HN.out]; exact ⟨k6, trivial⟩⟩, hB.trans k8.below⟩
                exact AllReadyIn.nil
              refine AllReadyIn.cons rfl (fun K hK => ?_) ?_
              · go_simp
                refine hK _ _ ?_
                clear hK K
                refine wpAnyIn_ready (rs := [0]) (by kernel_rfl) (by simp) ?_
                refine AllReadyIn.cons rfl (fun K hK => ?_) ?_
                · go_simp
                  refine hK _ _ ?_
                  clear hK K
                  refine wpAnyIn_ready (rs := [6]) (by kernel_rfl) (by simp) ?_
                  refine AllReadyIn.cons rfl (fun K hK => ?_) AllReadyIn.nil
                  refine step_app (by rfl) (by rfl) (by rfl) (by rfl) (by rfl) hrun ?_
                  refine hK _ _ ?_
                  clear hK K
                  refine wpAnyIn_ready (rs := [7]) (by kernel_rfl) (by simp) ?_
                  refine AllReadyIn.cons rfl (fun K hK => ?_) AllReadyIn.nil
                  go_simp
                  refine hK _ _ ?_
                  clear hK K
                  refine wpAnyIn_done (by kernel_rfl) ?_ _
                  gi_wp2
                  exact ⟨k7, k8, ⟨_, k5, by rw [HN.out]; exact ⟨k6, trivial⟩⟩, hB.trans k8.below⟩
                exact AllReadyIn.nil
              exact AllReadyIn.nil
            exact AllReadyIn.nil
          exact AllReadyIn.nil
        exact AllReadyIn.nil
      exact AllReadyIn.nil
    · have HN : Hid (nms (valsN (pre ++ [⟨⟨dp, isT, op, top, nm, num, terms, args⟩, hz⟩])) = nms (valsN pre)) := by show _ = _; rw [HV.out]; exact nms_no ht
      gi_wp2
      exact ⟨KeepsFrom.refl _ _, Kp.refl _ _, ⟨v, hc, by rw [HN.out]; exact hrow⟩, hB⟩
  case done =>
    rintro D ys W' hD hS ⟨⟨v, hc, hrow, -⟩, hB⟩ hK
    rw [show valsN ys = ndT t 1 from hS] at hrow
    have hle : (nms (ndT t 1)).length ≤ 1000 := by have := nms_len (ndT t 1); rw [ndT_len] at this; omega
    obtain ⟨L, hL⟩ : ∃ L, nms (ndT t 1) = L := ⟨_, rfl⟩
    rw [hL] at hrow hle
    have HL : Hid (nms (ndT t 1) = L) := hL
    clear hL hS
    have hcc := hc.cell
    gi_wp2
    refine ⟨trivial, ?_⟩
    refine (callsIn_wide.2 (sort_own w.heap.size L.length v L W' hrow (by omega))).mono ?_
    rintro e w5 ⟨rfl, hr5, hg5⟩
    have hc5 : Boxed w5 (w.heap.size + 1) 28 v := hc.kept hg5 (hc.not_row (by decide) hrow)
    have hcc5 := hc5.cell
    have hK5 : w5.heap[D]? = some (.deferred (some [])) := (hg5.block D (Array.getElem?_eq_some_iff.1 hK).1 (fun e => by
      rcases hrow.2 with ⟨rfl, _⟩ | ⟨g, cap, cur, rfl, hb, hh, _⟩
      · cases e
      · cases e; rw [hh] at hK; cases hK)).trans hK
    have hB5 : Below w.heap.size w w5 := owns_below2 hB hrow (Nat.le_refl _) hg5 hB.size
    gi_wp2
    refine ⟨trivial, ?_⟩
    refine (callsIn_wide.2 (compact_own w.heap.size L.length v (srt L) w5 hr5 (by omega))).mono ?_
    rintro e w6 ⟨v', rfl, hr6, hg6⟩
    rw [srt_own_tog] at hr6
    have hK6 : w6.heap[D]? = some (.deferred (some [])) := (hg6.block D (Array.getElem?_eq_some_iff.1 hK5).1 (fun e => by
      rcases hr5.2 with ⟨rfl, _⟩ | ⟨g, cap, cur, rfl, hb, hh, _⟩
      · cases e
      · cases e; rw [hh] at hK5; cases hK5)).trans hK5
    have hB6 : Below w.heap.size w w6 := owns_below2 hB5 hr5 (Nat.le_refl _) hg6 hB5.size
    gi_wp2
    refine ⟨by simp, .inl ⟨_, _, rfl, run_takeDeferred hK6, ?_⟩⟩
    exact ⟨_, results_tmp rfl _ _ _, v', rfl, by rw [HL.out]; exact ownsRow_putObj hr6 _ hK6 rfl, below_put hB6 (Nat.le_trans hB4.size hD)⟩
  case stop =>
    rintro D c ys W' hD hS h hK
    exact h.elim
end Go.Proofs.Ytiihabecncnbcaa.Gl
