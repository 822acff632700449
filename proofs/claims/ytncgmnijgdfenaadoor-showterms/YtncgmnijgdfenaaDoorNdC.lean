/- The walk over a term's nodes. -/
import Derived.Test.YtncgmnijgdfenaaDoorNdB
namespace Go.Proofs.YtncgmnijgdfenaaDoor.Gl
open Go.RowKit Go.Shelf
set_option linter.unusedVariables false
attribute [local go_sem] Oper.semAt_some

set_option maxRecDepth 100000 in
set_option maxHeartbeats 4000000 in
theorem walkT_in (Pd : Nd → Prop) (W : World) (l lo N : Nat) (hlo : W.heap.size ≤ lo) (J Jx : List Nd → World → Prop) (hJ : ∀ pre A B, J pre A → Below A.heap.size A B → J pre B) (hY : Rd Pd l lo N J Jx) :
    ∀ t v (n : Nat) d pre w, (∀ x ∈ ndT t d, Pd x) → TmV W t v → Below W.heap.size W w → lo ≤ w.heap.size → J pre w → pre.length + (ndT t d).length ≤ N →
    CallsIn Fence.wide n Tryd.prog 42 #[v, .int .i64 d, .func (.yield l) #[] #[]] w (WalkR lo J Jx pre (ndT t d) w) := by
  refine Tm.ind (fun o nn x a ih v n d pre w hP hv hW hlw hj hN => ?_)
  obtain ⟨c0, c1, c2, c3, rfl, hr⟩ := hv
  rw [RdT] at hr
  obtain ⟨rfl, rfl, rfl, hbd, ao, ca, rfl, hlc, hcz, hLA⟩ := hr
  rw [ndT] at hN hP ⊢
  obtain ⟨b1, hb1⟩ : ∃ b, Obj.cells #[.int .i64 o, .int .i64 nn, .string x, .slice ao a.length ca] 36 = b := ⟨_, rfl⟩
  obtain ⟨b2, hb2⟩ : ∃ b, Obj.cells #[.string x, .int .i64 nn, .int .i64 0, .int .i64 (a.length : Nat)] 79 = b := ⟨_, rfl⟩
  have hB2 : Below w.heap.size w ((w.alloc b1).alloc b2) := ((Below.refl _ _).alloc (Nat.le_refl _) _).alloc (by simp) _
  have hbox : ((w.alloc b1).alloc b2).heap[w.heap.size]? = some b1 := (Below.heap_alloc _ _ _ (by simp)).trans (World.alloc_heap_new w _)
  have hy0 : YieldAt Fence.wide (n - 1) Tryd.prog l #[.agg #[.int .i64 d, .bool true, .int .i64 0, .int .i64 o, .string x, .int .i64 nn, .int .i64 0, .int .i64 (a.length : Nat)]] ((w.alloc b1).alloc b2) fun e W' =>
      (e = .returned (.bool true) ∧ J (pre ++ [headT d (.mk o nn x a)]) W' ∧ Kp lo w W' ∧ W'.cell? ⟨w.heap.size, 3, none⟩ = some (.slice ao a.length ca)) ∨ (e = .returned (.bool false) ∧ Jx (pre ++ [headT d (.mk o nn x a)]) W') := by
    refine YieldAt.mono (hY (n - 1) pre (headT d (.mk o nn x a)) _ (hP _ (List.mem_cons_self ..)) (hJ pre _ _ hj hB2) (by simp at hN; omega)) (fun e W' h => ?_)
    rcases h with ⟨he, hj', hk⟩ | ⟨he, hj'⟩
    · refine .inl ⟨he, hj', (Kp.of hB2 hlw).trans hk, ?_⟩
      subst hb1
      rw [hk.cell (.inr (.inl rfl)) hbox]
      simp [World.cell?, hbox]
    · exact .inr ⟨he, hj'⟩
  obtain ⟨fn, tmps, assign, body, hy, hR⟩ := hy0
  subst hb1 hb2
  clear hbox hB2
  have IH : Hid (∀ t ∈ a, ∀ v (n : Nat) d pre w, (∀ x ∈ ndT t d, Pd x) → TmV W t v → Below W.heap.size W w → lo ≤ w.heap.size → J pre w → pre.length + (ndT t d).length ≤ N →
    CallsIn Fence.wide n Tryd.prog 42 #[v, .int .i64 d, .func (.yield l) #[] #[]] w (WalkR lo J Jx pre (ndT t d) w)) := ih
  have HLA : Hid (RdTL W a ao 0) := hLA
  have HP : Hid (∀ x_1 ∈ headT d (.mk o nn x a) :: ndTL a (dn d), Pd x_1) := hP
  clear hP
  generalize hx : headT d (.mk o nn x a) = nd at *
  clear hx ih hLA
  have hdd : ∀ k : Nat, (Fence.wide.depth.isSome = true → 1 ≤ k) := fun k h => by cases h
  refine callsIn_of_wp Tryd.func42 rfl trivial ?_ rfl
  simp only [Tryd.ntmps42, List.size_toArray, List.length_cons, List.length_nil, Nat.reduceAdd, Nat.reduceSub, Array.replicate_succ, Array.replicate_zero, List.push_toArray, List.append_toArray, List.nil_append, List.cons_append]
  gi_wp2
  refine ⟨hdd _, ?_⟩
  refine hR.mono ?_
  rintro e W3 (⟨rfl, hj3, hk3, hc3⟩ | ⟨rfl, hx3⟩)
  · clear hR hy
    gi_wp2
    gi_loopw [29] (fun i wr => ∃ k : Nat, k ≤ a.length ∧ i = .int .i64 k ∧ J (pre ++ [nd] ++ ndTL (a.take k) (dn d)) wr ∧ Kp lo w wr) (fun i _ => a.length - (intOf i).toNat)
    case atStart => exact ⟨0, Nat.zero_le _, rfl, by simpa [ndTL] using hj3, hk3⟩
    case round =>
      obtain ⟨k, hk, rfl, hjr, hkr⟩ := hrel
      by_cases hlt : k < a.length
      · have hWr : Below W.heap.size W wr := hW.trans (hkr.below.mono hlo)
        obtain ⟨g, of, d0, d1, d2, d3, rfl, hg, q0, q1, q2, q3, hrd⟩ := HLA.out.get k hlt
        rw [Nat.zero_add] at q0 q1 q2 q3
        obtain ⟨⟨o', n', x', a'⟩, hak⟩ : ∃ u, a[k] = u := ⟨_, rfl⟩
        have hrd2 := hrd
        rw [hak, RdT] at hrd2
        obtain ⟨rfl, rfl, rfl, hbd', ao', ca', rfl, -⟩ := hrd2
        have p0 := (hWr.cell (p := ⟨g, of + k * 4, none⟩) hg).trans q0
        have p1 := (hWr.cell (p := ⟨g, of + k * 4 + 1, none⟩) hg).trans q1
        have p2 := (hWr.cell (p := ⟨g, of + k * 4 + 2, none⟩) hg).trans q2
        have p3 := (hWr.cell (p := ⟨g, of + k * 4 + 3, none⟩) hg).trans q3
        have hBa : Below wr.heap.size wr (wr.alloc (.cells #[.int .i64 o', .int .i64 n', .string x', .slice ao' a'.length ca'] 36)) := (Below.refl _ _).alloc (Nat.le_refl _) _
        have hls : lo ≤ wr.heap.size := Nat.le_trans hlw hkr.below.size
        have RC : Hid (CallsIn Fence.wide (n - 1) Tryd.prog 42 #[.agg #[.int .i64 o', .int .i64 n', .string x', .slice ao' a'.length ca'], .int .i64 (wrap64 (d + 1)), .func (.yield l) #[] #[]] (wr.alloc (.cells #[.int .i64 o', .int .i64 n', .string x', .slice ao' a'.length ca'] 36)) (fun e w' =>
            (e = .returned (.bool true) ∧ J (pre ++ [nd] ++ ndTL (a.take (k + 1)) (dn d)) w' ∧ Kp lo w w') ∨ (e = .returned (.bool false) ∧ ∃ q, q <+: nd :: ndTL a (dn d) ∧ Jx (pre ++ q) w'))) := by
          refine ((IH.out a[k] (List.getElem_mem hlt) _ (n - 1) (dn d) (pre ++ [nd] ++ ndTL (a.take k) (dn d)) (wr.alloc (.cells #[.int .i64 o', .int .i64 n', .string x', .slice ao' a'.length ca'] 36)) (fun y hy => HP.out y (List.mem_cons_of_mem _ (by rw [ndTL_split hlt (dn d)]; simp [hy]))) ⟨_, _, _, _, rfl, hrd⟩ (hWr.trans (hBa.mono hWr.size)) (by simp; omega) (hJ _ _ _ hjr hBa) ?_).mono ?_)
          · have := congrArg List.length (ndTL_split hlt (dn d))
            simp at this hN ⊢
            omega
          · rintro e w' (⟨he, hj', hk'⟩ | ⟨he, q, hq, hj'⟩)
            · refine .inl ⟨he, ?_, hkr.trans ((Kp.of hBa hls).trans hk')⟩
              rw [ndTL_take hlt, ← List.append_assoc]
              exact hj'
            · obtain ⟨r, hr⟩ := hq
              refine .inr ⟨he, nd :: (ndTL (a.take k) (dn d) ++ q), ?_, by simpa [List.append_assoc] using hj'⟩
              refine ⟨r ++ ndTL (a.drop (k + 1)) (dn d), ?_⟩
              rw [ndTL_split hlt (dn d), ← hr]
              simp [List.append_assoc]
        clear IH HLA HP q0 q1 q2 q3 hrd hjr hak
        gi_wp2
        refine ⟨trivial, hdd _, ?_⟩
        refine RC.out.mono ?_
        rintro e w5 (⟨rfl, hj5, hk5⟩ | ⟨rfl, q, hq, hx5⟩)
        · gi_wp2
          go_roundw
          case rel => exact ⟨k + 1, by omega, by go_num, hj5, hk5⟩
          case measure => simp [intOf]; omega
        · gi_wp2
          go_ret
          exact .inr ⟨rfl, q, hq, hx5⟩
      · obtain rfl : k = a.length := by omega
        gi_wp2
        go_ret
        exact .inl ⟨rfl, by simpa [List.append_assoc] using hjr, hkr⟩
  · gi_wp2
    go_ret
    exact .inr ⟨rfl, [nd], ⟨ndTL a (dn d), by simp⟩, hx3⟩
end Go.Proofs.YtncgmnijgdfenaaDoor.Gl
