/- The document's Measure, Check; sameTerm. -/
import Derived.Test.YtabfhdmcljdjhaaGreatDoorTrG
import Derived.Test.YtabfhdmcljdjhaaGreatDoorPaC
import Derived.Test.YtabfhdmcljdjhaaGreatDoorPcT
namespace Go.Proofs.YtabfhdmcljdjhaaGreatDoor.Gl
open Go.RowKit
set_option linter.unusedVariables false

theorem heap3_new (w : World) (A B C : Obj) : (((w.alloc A).alloc B).alloc C).heap[w.heap.size + 2]? = some C := by
  have := heap_alloc_new ((w.alloc A).alloc B) C
  rwa [World.size_alloc, World.size_alloc] at this
theorem cell_newO (W : World) (vs : Array Value) (t : TypeId) (b : Nat) (hb : W.heap.size = b) (o : Nat) : (W.alloc (.cells vs t)).cell? ⟨b, o, none⟩ = vs[o]? := by
  subst hb; simp
theorem froz_newO (W : World) (vs : Array Value) (t : TypeId) (b : Nat) (hb : W.heap.size = b) (o : Nat) : (W.alloc (.cells vs t)).frozen? ⟨b, o, none⟩ = false := by
  subst hb; simp
theorem cell_mid (w : World) (A C : Obj) (x y z : Value) (t : TypeId) (o : Nat) : (((w.alloc A).alloc (.cells #[x, y, z] t)).alloc C).cell? ⟨w.heap.size + 1, o, none⟩ = #[x, y, z][o]? :=
  (World.cell?_of_block (heap_alloc_old _ _ (show w.heap.size + 1 < ((w.alloc A).alloc (.cells #[x, y, z] t)).heap.size by simp))).trans (cell_newO _ _ _ _ (by simp) o)
theorem froz_mid (w : World) (A C : Obj) (x y z : Value) (t : TypeId) (o : Nat) : (((w.alloc A).alloc (.cells #[x, y, z] t)).alloc C).frozen? ⟨w.heap.size + 1, o, none⟩ = false :=
  (World.frozen?_of_block (heap_alloc_old _ _ (show w.heap.size + 1 < ((w.alloc A).alloc (.cells #[x, y, z] t)).heap.size by simp))).trans (froz_newO _ _ _ _ (by simp) o)
set_option maxHeartbeats 1000000 in
theorem rmeasure_at (W : World) (f : Fm) (v : Value) (w : World) (hv : FmV W f v) (hW : Below W.heap.size W w) :
    Calls Tryz.prog 20 #[v] w fun e w' => e = .returned (.agg #[.int .i64 (meterF nmB f 1 ⟨0, 0, 0⟩).n, .int .i64 (meterF nmB f 1 ⟨0, 0, 0⟩).d, .int .i64 (chk nmB f)]) ∧ Below w.heap.size w w' := by
  obtain ⟨s, hs⟩ : ∃ s, meterF nmB f 1 ⟨0, 0, 0⟩ = s := ⟨_, rfl⟩
  have FH : Hid (∀ b w, W.heap.size ≤ b → Below W.heap.size W w → MtIs w b ⟨0, 0, 0⟩ → Calls Tryz.prog 43 #[.pointer (some ⟨b, 0, none⟩), v, .int .i64 1] w fun e w' => e = .returned (.tuple #[]) ∧ MtIs w' b s ∧ But b w w') := fun b w h1 h2 h3 => by
    have := rformula_at W b h1 f v 1 ⟨0, 0, 0⟩ w hv h2 h3 ⟨by decide, by decide, fun _ => by decide⟩ rfl (by decide)
    rwa [hs] at this
  unfold chk
  rw [hs]
  have hWs := hW.size
  obtain ⟨c0, c1, c2, c3, c4, rfl, _⟩ := hv
  clear hs
  go_enter Tryz.func20, Tryz.ntmps20
  go_wp2_with (fail)
  refine (FH.out (w.heap.size + 2) _ (by omega) (hW.trans ((bta (bta (bta0 _ _) _) _).mono hWs)) ⟨(0, 0), heap3_new _ _ _ _⟩).mono ?_
  rintro e w3 ⟨rfl, hM3, hU3⟩
  obtain ⟨m0, m1, m2, n0, n1, n2⟩ := mt_cells hM3
  have r0 := (hU3.cell (g := w.heap.size + 1) (o := 0) (by simp) (by omega)).trans (cell_mid _ _ _ _ _ _ _ 0)
  have r1 := (hU3.cell (g := w.heap.size + 1) (o := 1) (by simp) (by omega)).trans (cell_mid _ _ _ _ _ _ _ 1)
  have r2 := (hU3.cell (g := w.heap.size + 1) (o := 2) (by simp) (by omega)).trans (cell_mid _ _ _ _ _ _ _ 2)
  have z : ∀ o, w3.frozen? ⟨w.heap.size + 1, o, none⟩ = false := fun o => (World.frozen?_of_block (hU3.block (w.heap.size + 1) (by simp) (by omega))).trans (froz_mid _ _ _ _ _ _ _ o)
  have hB : Below w.heap.size w w3 := (bta (bta (bta0 w _) _) _).trans (hU3.below (by omega) (by simp; omega))
  clear FH hU3
  go_wp2
  refine bodyPost_ret (v := .agg #[.int .i64 s.n, .int .i64 s.d, .int .i64 s.e]) (by simp [results, Tryz.results20, go_sem, r0, r1, r2]) rfl ⟨rfl, ?_⟩
  exact ((hB.setCell (by simp) _).setCell (by simp) _).setCell (by simp) _
set_option maxRecDepth 100000 in
theorem rcheck_at (W : World) (f : Fm) (v : Value) (w : World) (hv : FmV W f v) (hW : Below W.heap.size W w) :
    Calls Tryz.prog 9 #[v] w fun e w' => e = .returned (.int .i64 (chk nmB f)) ∧ Below w.heap.size w w' := by
  have ME : Hid (∀ w, Below W.heap.size W w → Calls Tryz.prog 20 #[v] w fun e w' => e = .returned (.agg #[.int .i64 (meterF nmB f 1 ⟨0, 0, 0⟩).n, .int .i64 (meterF nmB f 1 ⟨0, 0, 0⟩).d, .int .i64 (chk nmB f)]) ∧ Below w.heap.size w w') := fun w h => rmeasure_at W f v w hv h
  have hWs := hW.size
  obtain ⟨c0, c1, c2, c3, c4, rfl, _⟩ := hv
  generalize meterF nmB f 1 ⟨0, 0, 0⟩ = s at *
  generalize chk nmB f = c at *
  have hWa := hW.trans ((bta0 w (.cells #[c0, c1, c2, c3, c4] 26)).mono hWs)
  go_enter Tryz.func9, Tryz.ntmps9
  go_wp2_with (fail)
  refine (ME.out _ hWa).mono ?_
  rintro e w3 ⟨rfl, hB3⟩
  clear ME
  have hfl : ∀ w (x y z : Value), (Instr.field 64 (.agg #[x, y, z]) 2).run Tryz.prog w = .ok z w := fun w x y z => by kernel_rfl
  go_wp2
  go_ret
  exact ⟨rfl, ba2 hB3⟩
end Go.Proofs.YtabfhdmcljdjhaaGreatDoor.Gl
/- CheckTerm, the landed one and the document's. -/
namespace Go.Proofs.YtabfhdmcljdjhaaGreatDoor.Gl
open Go.RowKit Go.Shelf
set_option linter.unusedVariables false
attribute [local go_sem] Oper.semAt_some

/-- the first reason of a term -/
def chkT (nm : ByteArray → Bool) (t : Tm) : Nat := (meterT nm t 1 ⟨0, 0, 0⟩).e
theorem chkT_run (nm : ByteArray → Bool) (t : Tm) : chkT nm t = (run0 nm (ndT t 1)).e := by
  unfold chkT run0
  rw [show (1 : Int) = ((1 : Nat) : Int) from rfl, fold_T nm t 1 ⟨0, 0, 0⟩ rfl (by omega)]
theorem chkT_iff (nm : ByteArray → Bool) (t : Tm) : chkT nm t = 0 ↔ (t.size ≤ 500 ∧ t.deep ≤ 40 ∧ t.all (wellT nm) = true) := by
  have h := meterT_fine nm t 1 ⟨0, 0, 0⟩ (by omega)
  constructor
  · intro h0
    obtain ⟨a, b, c⟩ := h.2 rfl h0 (by decide)
    exact ⟨by have : 0 + t.size ≤ 500 := a; omega, by omega, c⟩
  · rintro ⟨a, b, c⟩
    have := h.1 rfl (by show 0 + t.size ≤ 500; omega) (by omega) c
    unfold chkT
    rw [this]
theorem BoxT.sz {w W : World} {b : Nat} {f : Tm} (h : BoxT w b f W) : ∀ x ∈ ndT f 1, Sz x.name.size := by
  obtain ⟨c0, c1, c2, c3, _, hr⟩ := h
  exact szT f _ _ _ _ 1 hr
set_option maxRecDepth 100000 in
set_option maxHeartbeats 4000000 in
theorem checkT_at (W : World) (f : Tm) (Bf : Nat) (w : World) (hW : Below W.heap.size W w) (hb : BoxT w Bf f W) :
    Calls Tryz.prog 33 #[.func (.func 73) #[] #[.pointer (some ⟨Bf, 0, none⟩)]] w fun e w' => e = .returned (.int .i64 (chkT nmB f : Nat)) ∧ Below w.heap.size w w' := by
  refine (callsIn_wide (n := 8)).1 ?_
  have hdd : ∀ k : Nat, (Fence.wide.depth.isSome = true → 1 ≤ k) := fun k h => by cases h
  refine callsIn_of_wp_marks Tryz.func33 rfl trivial ?_ rfl
  simp only [Tryz.ntmps33, List.size_toArray, List.length_cons, List.length_nil, Nat.reduceAdd, Nat.reduceSub, Array.replicate_succ, Array.replicate_zero, List.push_toArray, List.append_toArray, List.nil_append, List.cons_append]
  gi_wp2
  obtain ⟨w2, hw2⟩ : ∃ w2, (w.alloc (.cells #[.int .i64 0] 27)).alloc (.cells #[.int .i64 0] 3) = w2 := ⟨_, rfl⟩
  have hB2 : Below w.heap.size w w2 := by rw [← hw2]; exact ((Below.refl _ _).alloc (Nat.le_refl _) _).alloc (by simp) _
  have hbr : Boxed w2 w.heap.size 27 (.int .i64 0) := by rw [← hw2]; exact (Boxed.new w _ _).alloc _
  have hbc : Boxed w2 (w.heap.size + 1) 3 (.int .i64 0) := by
    rw [← hw2]; have := Boxed.new (w.alloc (.cells #[.int .i64 0] 27)) 3 (.int .i64 0); rwa [World.size_alloc] at this
  have hsz : w2.heap.size = w.heap.size + 2 := by rw [← hw2]; simp
  have hbf : BoxT w2 Bf f W := by obtain ⟨c0, c1, c2, c3, hx, hr⟩ := hb; exact ⟨c0, c1, c2, c3, (hB2.block Bf (Array.getElem?_eq_some_iff.1 hx).1).trans hx, hr⟩
  rw [hw2]
  refine wpIn_rangeFunc_ownH rfl (by omega) (gf := 73) (lb := #[.pointer (some ⟨Bf, 0, none⟩)]) rfl trivial (enters_of Tryz.func73 (by kernel_rfl) rfl)
    (termNodes_stops (fun x => Sz x.name.size) W _ w.heap.size Bf f w2 hW.size (hW.trans (hB2.mono hW.size)) (by omega) hbf hbf.sz) (fun h k => h.trans k) (Kp.put (by omega)) (Below.refl _ _) (fun _ => rfl)
    (fun pre W' => Boxed W' (w.heap.size + 1) 3 (.int .i64 (pre.length : Nat)) ∧ Boxed W' w.heap.size 27 (.int .i64 0) ∧ (run0 nmB (vals pre)).e = 0 ∧ Below w.heap.size w W')
    (fun c pre W' => c = .ret ∧ Boxed W' w.heap.size 27 (.int .i64 ((run0 nmB (vals pre)).e : Nat)) ∧ (run0 nmB (vals pre)).e ≠ 0 ∧ Below w.heap.size w W')
    (OwnFrom.and (Own.from (boxed_own _ _ _) _) (OwnFrom.and (Own.from (boxed_own _ _ _) _) (OwnFrom.and (ownFrom_pure _ _) (ownFrom_below (Nat.le_refl _) (by omega)))))
    (fun c => OwnFrom.and (ownFrom_pure _ _) (OwnFrom.and (Own.from (boxed_own _ _ _) _) (OwnFrom.and (ownFrom_pure _ _) (ownFrom_below (Nat.le_refl _) (by omega)))))
    ⟨hbc, hbr, rfl, hB2⟩
    (fun x a' W' => ∃ Bx, w.heap.size + 1 < Bx ∧ W'.heap[Bx]? = some (Obj.cells (ndC x.1) 107) ∧ a' = { tmps := #[.func (.func 73) #[] #[.pointer (some ⟨Bf, 0, none⟩)], undef, .pointer (some ⟨w.heap.size, 0, none⟩), .pointer (some ⟨w.heap.size + 1, 0, none⟩), .pointer (some ⟨Bx, 0, none⟩), .func (.func 73) #[] #[.pointer (some ⟨Bf, 0, none⟩)], ndV x.1, undef, undef, undef, undef, undef, undef, undef, undef, undef, undef], defers := [] })
    ?hAx ?assign ?body ?done ?stop
  case hAx =>
    rintro x a' s X Y row ⟨Bx, h1, h2, h3⟩ hg hr
    exact ⟨Bx, h1, cells_own 0 (fun _ : Unit => Bx) (fun _ => ndC x.1) _ _ s X Y row h2 hg hr, h3⟩
  case assign =>
    rintro l pre x W' K ⟨h1, h2, h3, h4⟩ hK
    have hBa : Below W'.heap.size W' (W'.alloc (Obj.cells (ndC x.1) 107)) := (Below.refl _ _).alloc (Nat.le_refl _) _
    gi_wp2
    exact hK _ _ (keeps_of hBa) (Kp.of hBa h4.size) ⟨box_keep h1 hBa, box_keep h2 hBa, h3, h4.trans (hBa.mono h4.size)⟩ ⟨W'.heap.size, h1.lt, World.alloc_heap_new _ _, rfl⟩
  case body =>
    rintro l pre x a' W' hl _ ⟨hc, hr0, hrun, hB⟩ ⟨Bx, hBx, hx, rfl⟩ hlt
    clear hsz
    have hlen := (run_n (vals pre) hrun).2
    rw [vals_len] at hlen
    have HV : Hid (vals (pre ++ [x]) = vals pre ++ [x.1]) := vals_snoc pre x
    have HL : Hid ((vals pre).length = pre.length) := vals_len pre
    have HR : Hid ((run0 nmB (vals pre)).e = 0) := hrun
    clear hrun
    obtain ⟨x, hz⟩ := x
    dsimp only at hx HV ⊢
    obtain ⟨w3, hw3⟩ : ∃ w3, W'.setCell ⟨w.heap.size + 1, 0, none⟩ (.int .i64 ((pre.length : Int) + 1)) = w3 := ⟨_, rfl⟩
    have hc3 : Boxed w3 (w.heap.size + 1) 3 (.int .i64 ((pre.length : Int) + 1)) := by rw [← hw3]; exact hc.set _
    have hr3 : Boxed w3 w.heap.size 27 (.int .i64 0) := by rw [← hw3]; exact hr0.other (by omega) _
    have hx3 : w3.heap[Bx]? = some (Obj.cells (ndC x) 107) := by rw [← hw3]; exact ws_set hx (by omega) _
    have hk3 : Kp w.heap.size W' w3 := by rw [← hw3]; exact kp_set hc (by unfold WalkTy; decide) (by omega) _
    have hf3 : KeepsFrom w2.heap.size W' w3 := by rw [← hw3]; exact (KeepsOthers.setCell _ _ _).from _
    have hB3 : Below w.heap.size w w3 := hB.trans hk3.below
    have hcc := hc.cell
    have hcf := hc.frozen
    have hc3c := hc3.cell
    have hr3c := hr3.cell
    have hr3f := hr3.frozen
    have e0 := cells_at hx3 0 _ rfl
    have e1 := cells_at hx3 1 _ rfl
    have e2 := cells_at hx3 2 _ rfl
    have e3 := cells_at hx3 3 _ rfl
    have e4 := cells_at hx3 4 _ rfl
    have e5 := cells_at hx3 5 _ rfl
    have e6 := cells_at hx3 6 _ rfl
    have e7 := cells_at hx3 7 _ rfl
    have WC : Hid (Calls Tryz.prog 56 #[.agg #[.int .i64 x.dp, .bool x.isT, .int .i64 x.op, .int .i64 x.top, .string x.name, .int .i64 x.num, .int .i64 (x.terms : Nat), .int .i64 (x.args : Nat)]] w3 fun e w' => e = .returned (.bool (wellN nmB x)) ∧ Below w3.heap.size w3 w' ∧ Boxed w' w.heap.size 27 (.int .i64 0)) :=
      (wellN_at x w3 hz).mono (fun e w' h => ⟨h.1, h.2, box_keep hr3 h.2⟩)
    by_cases h1 : 500 < pre.length + 1
    · have HE : Hid ((run0 nmB (vals (pre ++ [⟨x, hz⟩]))).e = 73) := by show _ = _; rw [HV.out]; exact run_many HR.out (by rw [HL.out]; exact h1)
      have h1' : (500 : Int) < (pre.length : Int) + 1 := by omega
      gi_wp2
      exact ⟨hf3.trans ((KeepsOthers.setCell _ _ _).from _), rfl, by rw [HE.out]; exact hr3.set _, by rw [HE.out]; decide, hB3.setCell (p := ⟨w.heap.size, 0, none⟩) (Nat.le_refl _) _⟩
    · have h1' : (pre.length : Int) + 1 ≤ 500 := by omega
      by_cases h2 : 40 < x.dp
      · have HE : Hid ((run0 nmB (vals (pre ++ [⟨x, hz⟩]))).e = 72) := by show _ = _; rw [HV.out]; exact run_deep HR.out (by rw [HL.out]; exact h1) h2
        gi_wp2
        exact ⟨hf3.trans ((KeepsOthers.setCell _ _ _).from _), rfl, by rw [HE.out]; exact hr3.set _, by rw [HE.out]; decide, hB3.setCell (p := ⟨w.heap.size, 0, none⟩) (Nat.le_refl _) _⟩
      · have h2' : x.dp ≤ 40 := by omega
        cases h3 : wellN nmB x with
        | false =>
          have HE : Hid ((run0 nmB (vals (pre ++ [⟨x, hz⟩]))).e = 3) := by show _ = _; rw [HV.out]; exact run_bad HR.out (by rw [HL.out]; exact h1) h2 h3
          rw [h3] at WC
          gi_wp2
          refine ⟨trivial, ?_⟩
          refine (CallsIn.inRound l (callsIn_wide.2 WC.out)).mono ?_
          rintro e w4 ⟨rfl, hB4, hr4⟩
          have hr4c := hr4.cell
          have hr4f := hr4.frozen
          gi_wp2
          exact ⟨hf3.trans ((keeps_of hB4).trans ((KeepsOthers.setCell _ _ _).from _)), rfl, by rw [HE.out]; exact hr4.set _, by rw [HE.out]; decide, (hB3.trans (hB4.mono hB3.size)).setCell (p := ⟨w.heap.size, 0, none⟩) (Nat.le_refl _) _⟩
        | true =>
          have HE : Hid ((run0 nmB (vals (pre ++ [⟨x, hz⟩]))).e = 0) := by show _ = _; rw [HV.out]; exact run_ok HR.out (by rw [HL.out]; exact h1) h2 h3
          rw [h3] at WC
          gi_wp2
          refine ⟨trivial, ?_⟩
          refine (CallsIn.inRound l (callsIn_wide.2 WC.out)).mono ?_
          rintro e w4 ⟨rfl, hB4, hr4⟩
          gi_wp2
          exact ⟨hf3.trans (keeps_of hB4), hk3.trans (Kp.of hB4 hB3.size), by have := box_keep hc3 hB4; simpa using this, hr4, HE.out, hB3.trans (hB4.mono hB3.size)⟩
  case done =>
    rintro D ys W' hD hS ⟨hc, hr0, hrun, hB⟩ hK
    have hrc := hr0.cell
    have hrf := hr0.frozen
    have HE : Hid (chkT nmB f = 0) := by
      show _ = _
      rw [chkT_run, ← show vals ys = ndT f 1 from hS]
      exact hrun
    clear hrun hS
    gi_wp2
    have hK' := def_set hK rfl ⟨w.heap.size, 0, none⟩ (.int .i64 0)
    refine ⟨by simp, .inl ⟨_, _, rfl, run_takeDeferred hK', ?_⟩⟩
    have hc5 := (box_put (hr0.set (.int .i64 0)) hK').cell
    refine ⟨.int .i64 0, ?_, by rw [HE.out]; rfl, below_put (hB.setCell (p := ⟨w.heap.size, 0, none⟩) (Nat.le_refl _) _) (by omega)⟩
    simp [results, Tryz.results33, go_sem, hc5]
  case stop =>
    rintro D c ys W' hD hS ⟨rfl, hr0, hrun, hB⟩ hK
    have HE : Hid (chkT nmB f = (run0 nmB (vals ys)).e) := by
      show _ = _
      rw [chkT_run, run_pre (show vals ys <+: ndT f 1 from hS) hrun]
    clear hrun hS
    gi_wp2
    refine ⟨by simp, .inl ⟨_, _, rfl, run_takeDeferred hK, ?_⟩⟩
    have hc5 := (box_put hr0 hK).cell
    refine ⟨_, ?_, by rw [HE.out], below_put hB (by omega)⟩
    simp [results, Tryz.results33, go_sem, hc5]
/-- tree.CheckTerm -/
theorem checkT_run (W : World) (f : Tm) (v : Value) (w : World) (hv : TmV W f v) (hW : Below W.heap.size W w) :
    Calls Tryz.prog 24 #[v] w fun e w' => e = .returned (.int .i64 (chkT nmB f : Nat)) ∧ Below w.heap.size w w' := by
  obtain ⟨c0, c1, c2, c3, rfl, hr⟩ := hv
  have hr' := hr
  obtain ⟨o, n, x, a⟩ := f
  rw [RdT] at hr
  obtain ⟨rfl, rfl, rfl, hbd, ao, ca, rfl, -⟩ := hr
  obtain ⟨b, hb⟩ : ∃ b, Obj.cells #[.int .i64 o, .int .i64 n, .string x, .slice ao a.length ca] 43 = b := ⟨_, rfl⟩
  have hB : Below w.heap.size w ((w.alloc b).alloc b) := ((Below.refl _ _).alloc (Nat.le_refl _) _).alloc (by simp) _
  have RC : Hid (Calls Tryz.prog 33 #[.func (.func 73) #[] #[.pointer (some ⟨w.heap.size + 1, 0, none⟩)]] ((w.alloc b).alloc b) fun e w' => e = .returned (.int .i64 (chkT nmB (.mk o n x a) : Nat)) ∧ Below w.heap.size w w') := by
    refine (checkT_at W (.mk o n x a) (w.heap.size + 1) _ (hW.trans (hB.mono hW.size)) ⟨_, _, _, _, ?_, hr'⟩).mono (fun e w' h => ⟨h.1, hB.trans (h.2.mono hB.size)⟩)
    rw [hb]
    have := World.alloc_heap_new (w.alloc b) b
    rwa [World.size_alloc] at this
  subst hb
  clear hr' hB
  generalize chkT nmB (.mk o n x a) = r at *
  go_enter Tryz.func24, Tryz.ntmps24
  go_wp2_with (first
    | (go_at_call 46; refine (termNodes_at _ _ _ _ _ _ _).mono ?_; rintro e w2 ⟨rfl, rfl⟩)
    | (go_at_call 33; refine RC.out.mono ?_; rintro e w3 ⟨rfl, hB3⟩))
  go_ret
  exact ⟨rfl, hB3⟩
theorem heap2_new (w : World) (A B : Obj) : ((w.alloc A).alloc B).heap[w.heap.size + 1]? = some B := by
  have := heap_alloc_new (w.alloc A) B
  rwa [World.size_alloc] at this
set_option maxRecDepth 100000 in
set_option maxHeartbeats 1000000 in
theorem rcheckT_at (W : World) (f : Tm) (v : Value) (w : World) (hv : TmV W f v) (hW : Below W.heap.size W w) :
    Calls Tryz.prog 13 #[v] w fun e w' => e = .returned (.int .i64 (chkT nmB f : Nat)) ∧ Below w.heap.size w w' := by
  obtain ⟨s, hs⟩ : ∃ s, meterT nmB f 1 ⟨0, 0, 0⟩ = s := ⟨_, rfl⟩
  have FH : Hid (∀ b w, W.heap.size ≤ b → Below W.heap.size W w → MtIs w b ⟨0, 0, 0⟩ → Calls Tryz.prog 26 #[.pointer (some ⟨b, 0, none⟩), v, .int .i64 1] w fun e w' => e = .returned (.tuple #[]) ∧ MtIs w' b s ∧ But b w w') := fun b w h1 h2 h3 => by
    have := rterm_at W b h1 f v 1 ⟨0, 0, 0⟩ w hv h2 h3 ⟨by decide, by decide, fun _ => by decide⟩ rfl (by decide)
    rwa [hs] at this
  unfold chkT
  rw [hs]
  have hWs := hW.size
  obtain ⟨c0, c1, c2, c3, rfl, _⟩ := hv
  clear hs
  go_enter Tryz.func13, Tryz.ntmps13
  go_wp2_with (fail)
  refine (FH.out (w.heap.size + 1) _ (by omega) (hW.trans ((bta (bta0 _ _) _).mono hWs)) ⟨(0, 0), heap2_new _ _ _⟩).mono ?_
  rintro e w3 ⟨rfl, hM3, hU3⟩
  obtain ⟨m0, m1, m2, n0, n1, n2⟩ := mt_cells hM3
  have hB : Below w.heap.size w w3 := (bta (bta0 w _) _).trans (hU3.below (by omega) (by simp; omega))
  clear FH hU3
  go_wp2
  go_ret
  exact ⟨rfl, hB⟩
end Go.Proofs.YtabfhdmcljdjhaaGreatDoor.Gl
/- The landed whole, of a term: a fault of its words. -/
namespace Go.Proofs.YtabfhdmcljdjhaaGreatDoor.Gl
open Go.RowKit
set_option linter.unusedVariables false
set_option linter.unusedSimpArgs false

theorem bel_st4 {b B : Nat} {w w' : World} (h : Below b w w') (hB : b ≤ B) (v0 v1 v2 v3 : Value) : Below b w (st4 w' B v0 v1 v2 v3) := (((h.setCell (p := ⟨B, 0, none⟩) hB v0).setCell (p := ⟨B, 1, none⟩) hB v1).setCell (p := ⟨B, 2, none⟩) hB v2).setCell (p := ⟨B, 3, none⟩) hB v3
/-- what is said of all the words of a term -/
inductive FinT (ws : List Wd) : Out Tm → Prop
  | bad {e q} : PT ws .sum 0 (.bad e q) → FinT ws (.bad e q)
  | rest {t q} : PT ws .sum 0 (.ok t q) → q < ws.length → FinT ws (.bad 71 q)
  | ok {t} : PT ws .sum 0 (.ok t ws.length) → FinT ws (.ok t ws.length)
/-- what a text is as a term: the term, or why not and where -/
inductive AnT (s : ByteArray) : Option Tm → Nat → Nat → Nat → Prop
  | long : 4096 < s.size → AnT s none 70 0 0
  | lex {a c p} : s.size ≤ 4096 → Lx s 0 a (some (c, p)) → AnT s none c p (cnt (s.extract 0 p))
  | bad {a y q} : s.size ≤ 4096 → Lx s 0 a none → FinT a (.bad y q) → AnT s none y (pcB s a q) (pcC s a q)
  | many {a f q} : s.size ≤ 4096 → Lx s 0 a none → FinT a (.ok f q) → chkT nmB f ≠ 0 → AnT s none (chkT nmB f) 0 0
  | ok {a f q} : s.size ≤ 4096 → Lx s 0 a none → FinT a (.ok f q) → chkT nmB f = 0 → AnT s (some f) 0 0 0
theorem FinT.ex (ws : List Wd) : ∃ r, FinT ws r := by
  obtain ⟨r, hr⟩ := (PT.ex ws _ 0 (Nat.le_refl _)).2.2.1
  cases r with
  | bad e q => exact ⟨_, .bad hr⟩
  | ok t q =>
    have := hr.far
    simp only [Out.far, QT.more] at this
    by_cases h : q < ws.length
    · exact ⟨_, .rest hr h⟩
    · obtain rfl : q = ws.length := by omega
      exact ⟨_, .ok hr⟩
theorem AnT.ex (s : ByteArray) : ∃ o c b k, AnT s o c b k := by
  by_cases h : 4096 < s.size
  · exact ⟨_, _, _, _, .long h⟩
  · obtain ⟨a, f, hl⟩ := Lx.ex s
    cases f with
    | some cp => obtain ⟨c, p⟩ := cp; exact ⟨_, _, _, _, .lex (by omega) hl⟩
    | none =>
      obtain ⟨r, hr⟩ := FinT.ex a
      cases r with
      | bad e q => exact ⟨_, _, _, _, .bad (by omega) hl hr⟩
      | ok f q =>
        by_cases h0 : chkT nmB f = 0
        · exact ⟨_, _, _, _, .ok (by omega) hl hr h0⟩
        · exact ⟨_, _, _, _, .many (by omega) hl hr h0⟩
abbrev nilT : Value := .agg #[.int .i64 0, .int .i64 0, .string emp, .slice none 0 0]
/-- the value beside a fault, or the term's, its lists in blocks from B on -/
def TmA (B : Nat) (w : World) (o : Option Tm) (v : Value) : Prop := ∃ op m xs ao n c, v = .agg #[.int .i64 op, .int .i64 m, .string xs, .slice ao n c] ∧ (o = none → v = nilT) ∧ ∀ f, o = some f → RdTn (Ge B) w f (.int .i64 op) (.int .i64 m) (.string xs) (.slice ao n c)
set_option maxRecDepth 100000 in
set_option maxHeartbeats 1000000 in
theorem twhole_fault (s : ByteArray) (w : World) (c b k : Nat) (hc : c ≠ 0) (hS : Sg w)
    (LW0 : ∀ w, Sg w → Calls Tryz.prog 27 #[.string s] w fun e w' => ∃ v, e = .returned (.tuple #[v, fau c b k]) ∧ w'.ownsRow w.heap.size 87 5 v 0 [] ∧ Below w.heap.size w w') :
    Calls Tryz.prog 22 #[.string s, .func (.func 23) #[] #[], .func (.func 24) #[] #[]] w fun e w' => e = .returned (.tuple #[nilT, fau c b k]) ∧ Below w.heap.size w w' := by
  have hc' : ((c : Int) == 0) = false := by rw [beq_eq_false_iff_ne]; omega
  have LW := mkHid (LW0 _ (((hS.alloc (.cells zT 43)).alloc (.cells zA 31)).alloc (.cells zT 43)))
  have hB3 : Below w.heap.size w (((w.alloc (.cells zT 43)).alloc (.cells zA 31)).alloc (.cells zT 43)) := bta (bta (bal w _) _) _
  have hF1 : Rb (((w.alloc (.cells zT 43)).alloc (.cells zA 31)).alloc (.cells zT 43)) w.heap.size zT 43 := ((rb_new w zT 43).keep (bal _ _)).keep (bal _ _)
  have hF2 : Rb (((w.alloc (.cells zT 43)).alloc (.cells zA 31)).alloc (.cells zT 43)) (w.heap.size + 1) zA 31 := by
    have := (rb_new (w.alloc (.cells zT 43)) zA 31).keep (bal _ (.cells zT 43))
    rwa [World.size_alloc] at this
  have hX8 : Rb (((w.alloc (.cells zT 43)).alloc (.cells zA 31)).alloc (.cells zT 43)) (w.heap.size + 2) zT 43 := by
    have := rb_new ((w.alloc (.cells zT 43)).alloc (.cells zA 31)) zT 43
    rwa [World.size_alloc, World.size_alloc] at this
  clear LW0
  go_enter Tryz.func22, Tryz.ntmps22
  go_wp2_with (go_at_call 27; refine (LW.out).mono ?_; rintro e w4 ⟨v, rfl, -, hB4⟩; have hF1' := (hF1.keep hB4).keep (bal w4 (.cells #[.int .i64 (c : Nat), .int .i64 (b : Nat), .int .i64 (k : Nat)] 31)); have hF2' := (hF2.keep hB4).keep (bal w4 (.cells #[.int .i64 (c : Nat), .int .i64 (b : Nat), .int .i64 (k : Nat)] 31)); have hX8' := (hX8.keep hB4).keep (bal w4 (.cells #[.int .i64 (c : Nat), .int .i64 (b : Nat), .int .i64 (k : Nat)] 31)); have hs4 := (Array.getElem?_eq_some_iff.1 (hX8.keep hB4)).1; obtain ⟨x0, -⟩ := txcell hX8' 0 _ rfl; obtain ⟨x1, -⟩ := txcell hX8' 1 _ rfl; obtain ⟨x2, -⟩ := txcell hX8' 2 _ rfl; obtain ⟨x3, -⟩ := txcell hX8' 3 _ rfl; obtain ⟨a0, g0⟩ := txcell hF1' 0 _ rfl; obtain ⟨a1, g1⟩ := txcell hF1' 1 _ rfl; obtain ⟨a2, g2⟩ := txcell hF1' 2 _ rfl; obtain ⟨a3, g3⟩ := txcell hF1' 3 _ rfl; obtain ⟨b0, f0⟩ := txcell hF2' 0 _ rfl; obtain ⟨b1, f1⟩ := txcell hF2' 1 _ rfl; obtain ⟨b2, f2⟩ := txcell hF2' 2 _ rfl)
  have hRa := (rb_four hF1' rfl (.int .i64 0) (.int .i64 0) (.string emp) (.slice none 0 0)).st3 (X := w.heap.size + 1) (by omega) (.int .i64 (c : Nat)) (.int .i64 (b : Nat)) (.int .i64 (k : Nat))
  have hRb := rb_three (hF2'.st4 (X := w.heap.size) (by omega) (.int .i64 0) (.int .i64 0) (.string emp) (.slice none 0 0)) rfl (.int .i64 (c : Nat)) (.int .i64 (b : Nat)) (.int .i64 (k : Nat))
  have hBz := bel_st3 (bel_st4 (bta (bt2 hB3 hB4) (.cells #[.int .i64 (c : Nat), .int .i64 (b : Nat), .int .i64 (k : Nat)] 31)) (Nat.le_refl _) (.int .i64 0) (.int .i64 0) (.string emp) (.slice none 0 0)) (Nat.le_succ _) (.int .i64 (c : Nat)) (.int .i64 (b : Nat)) (.int .i64 (k : Nat))
  obtain ⟨k0, -⟩ := txcell hRa 0 _ rfl
  obtain ⟨k1, -⟩ := txcell hRa 1 _ rfl
  obtain ⟨k2, -⟩ := txcell hRa 2 _ rfl
  obtain ⟨k3, -⟩ := txcell hRa 3 _ rfl
  obtain ⟨l0, -⟩ := txcell hRb 0 _ rfl
  obtain ⟨l1, -⟩ := txcell hRb 1 _ rfl
  obtain ⟨l2, -⟩ := txcell hRb 2 _ rfl
  go_region_with (fail)
  all_goals
    go_wp2
    exact bodyPost_ret (v := .tuple #[nilT, fau c b k]) (by simp [results, Tryz.results22, go_sem, k0, k1, k2, k3, l0, l1, l2]) rfl ⟨rfl, hBz.drew⟩
end Go.Proofs.YtabfhdmcljdjhaaGreatDoor.Gl
