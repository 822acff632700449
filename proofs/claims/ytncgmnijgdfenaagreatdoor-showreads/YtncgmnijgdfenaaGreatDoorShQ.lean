/- CheckTerm, the landed one and the document's. -/
import Derived.Test.YtncgmnijgdfenaaGreatDoorPaC
import Derived.Test.YtncgmnijgdfenaaGreatDoorTrH
import Derived.Test.YtncgmnijgdfenaaGreatDoorShL
import Derived.Test.YtncgmnijgdfenaaGreatDoorShN
namespace Go.Proofs.YtncgmnijgdfenaaGreatDoor.Gl
open Go.RowKit Go.Shelf
set_option linter.unusedVariables false
attribute [local go_sem] Oper.semAt_some

/-- the first reason of a term -/
def chkT (nm : ByteArray → Bool) (t : Tm) : Nat := (meterT nm t 1 ⟨0, 0, 0⟩).e
theorem chkT_run (nm : ByteArray → Bool) (t : Tm) : chkT nm t = (run0 nm (ndT t 1)).e := by
  unfold chkT run0
  rw [show (1 : Int) = ((1 : Nat) : Int) from rfl, fold_T nm t 1 ⟨0, 0, 0⟩ rfl (by omega)]
theorem chkT_iff (nm : ByteArray → Bool) (t : Tm) : chkT nm t = 0 ↔ (t.size ≤ 500 ∧ t.deep ≤ 40 ∧ t.all (wellT nm) = true) := by
  have h := meterT_fine nm t 1 ⟨0, 0, 0⟩ (by omega)
  constructor
  · intro h0
    obtain ⟨a, b, c⟩ := h.2 rfl h0 (by decide)
    exact ⟨by have : 0 + t.size ≤ 500 := a; omega, by omega, c⟩
  · rintro ⟨a, b, c⟩
    have := h.1 rfl (by show 0 + t.size ≤ 500; omega) (by omega) c
    unfold chkT
    rw [this]
theorem BoxT.sz {w W : World} {b : Nat} {f : Tm} (h : BoxT w b f W) : ∀ x ∈ ndT f 1, Sz x.name.size := by
  obtain ⟨c0, c1, c2, c3, _, hr⟩ := h
  exact szT f _ _ _ _ 1 hr
set_option maxRecDepth 100000 in
set_option maxHeartbeats 4000000 in
theorem checkT_at (W : World) (f : Tm) (Bf : Nat) (w : World) (hW : Below W.heap.size W w) (hb : BoxT w Bf f W) :
    Calls Tryz.prog 28 #[.func (.func 60) #[] #[.pointer (some ⟨Bf, 0, none⟩)]] w fun e w' => e = .returned (.int .i64 (chkT nmB f : Nat)) ∧ Below w.heap.size w w' := by
  refine (callsIn_wide (n := 8)).1 ?_
  have hdd : ∀ k : Nat, (Fence.wide.depth.isSome = true → 1 ≤ k) := fun k h => by cases h
  refine callsIn_of_wp_marks Tryz.func28 rfl trivial ?_ rfl
  simp only [Tryz.ntmps28, List.size_toArray, List.length_cons, List.length_nil, Nat.reduceAdd, Nat.reduceSub, Array.replicate_succ, Array.replicate_zero, List.push_toArray, List.append_toArray, List.nil_append, List.cons_append]
  gi_wp2
  obtain ⟨w2, hw2⟩ : ∃ w2, (w.alloc (.cells #[.int .i64 0] 27)).alloc (.cells #[.int .i64 0] 3) = w2 := ⟨_, rfl⟩
  have hB2 : Below w.heap.size w w2 := by rw [← hw2]; exact ((Below.refl _ _).alloc (Nat.le_refl _) _).alloc (by simp) _
  have hbr : Boxed w2 w.heap.size 27 (.int .i64 0) := by rw [← hw2]; exact (Boxed.new w _ _).alloc _
  have hbc : Boxed w2 (w.heap.size + 1) 3 (.int .i64 0) := by
    rw [← hw2]; have := Boxed.new (w.alloc (.cells #[.int .i64 0] 27)) 3 (.int .i64 0); rwa [World.size_alloc] at this
  have hsz : w2.heap.size = w.heap.size + 2 := by rw [← hw2]; simp
  have hbf : BoxT w2 Bf f W := by obtain ⟨c0, c1, c2, c3, hx, hr⟩ := hb; exact ⟨c0, c1, c2, c3, (hB2.block Bf (Array.getElem?_eq_some_iff.1 hx).1).trans hx, hr⟩
  rw [hw2]
  refine wpIn_rangeFunc_ownH rfl (by omega) (gf := 60) (lb := #[.pointer (some ⟨Bf, 0, none⟩)]) rfl trivial (enters_of Tryz.func60 (by kernel_rfl) rfl)
    (termNodes_stops (fun x => Sz x.name.size) W _ w.heap.size Bf f w2 hW.size (hW.trans (hB2.mono hW.size)) (by omega) hbf hbf.sz) (fun h k => h.trans k) (Kp.put (by omega)) (Below.refl _ _) (fun _ => rfl)
    (fun pre W' => Boxed W' (w.heap.size + 1) 3 (.int .i64 (pre.length : Nat)) ∧ Boxed W' w.heap.size 27 (.int .i64 0) ∧ (run0 nmB (vals pre)).e = 0 ∧ Below w.heap.size w W')
    (fun c pre W' => c = .ret ∧ Boxed W' w.heap.size 27 (.int .i64 ((run0 nmB (vals pre)).e : Nat)) ∧ (run0 nmB (vals pre)).e ≠ 0 ∧ Below w.heap.size w W')
    (OwnFrom.and (Own.from (boxed_own _ _ _) _) (OwnFrom.and (Own.from (boxed_own _ _ _) _) (OwnFrom.and (ownFrom_pure _ _) (ownFrom_below (Nat.le_refl _) (by omega)))))
    (fun c => OwnFrom.and (ownFrom_pure _ _) (OwnFrom.and (Own.from (boxed_own _ _ _) _) (OwnFrom.and (ownFrom_pure _ _) (ownFrom_below (Nat.le_refl _) (by omega)))))
    ⟨hbc, hbr, rfl, hB2⟩
    (fun x a' W' => ∃ Bx, w.heap.size + 1 < Bx ∧ W'.heap[Bx]? = some (Obj.cells (ndC x.1) 104) ∧ a' = { tmps := #[.func (.func 60) #[] #[.pointer (some ⟨Bf, 0, none⟩)], undef, .pointer (some ⟨w.heap.size, 0, none⟩), .pointer (some ⟨w.heap.size + 1, 0, none⟩), .pointer (some ⟨Bx, 0, none⟩), .func (.func 60) #[] #[.pointer (some ⟨Bf, 0, none⟩)], ndV x.1, undef, undef, undef, undef, undef, undef, undef, undef, undef, undef], defers := [] })
    ?hAx ?assign ?body ?done ?stop
  case hAx =>
    rintro x a' s X Y row ⟨Bx, h1, h2, h3⟩ hg hr
    exact ⟨Bx, h1, cells_own 0 (fun _ : Unit => Bx) (fun _ => ndC x.1) _ _ s X Y row h2 hg hr, h3⟩
  case assign =>
    rintro l pre x W' K ⟨h1, h2, h3, h4⟩ hK
    have hBa : Below W'.heap.size W' (W'.alloc (Obj.cells (ndC x.1) 104)) := (Below.refl _ _).alloc (Nat.le_refl _) _
    gi_wp2
    exact hK _ _ (keeps_of hBa) (Kp.of hBa h4.size) ⟨box_keep h1 hBa, box_keep h2 hBa, h3, h4.trans (hBa.mono h4.size)⟩ ⟨W'.heap.size, h1.lt, World.alloc_heap_new _ _, rfl⟩
  case body =>
    rintro l pre x a' W' hl _ ⟨hc, hr0, hrun, hB⟩ ⟨Bx, hBx, hx, rfl⟩ hlt
    clear hsz
    have hlen := (run_n (vals pre) hrun).2
    rw [vals_len] at hlen
    have HV : Hid (vals (pre ++ [x]) = vals pre ++ [x.1]) := vals_snoc pre x
    have HL : Hid ((vals pre).length = pre.length) := vals_len pre
    have HR : Hid ((run0 nmB (vals pre)).e = 0) := hrun
    clear hrun
    obtain ⟨x, hz⟩ := x
    dsimp only at hx HV ⊢
    obtain ⟨w3, hw3⟩ : ∃ w3, W'.setCell ⟨w.heap.size + 1, 0, none⟩ (.int .i64 ((pre.length : Int) + 1)) = w3 := ⟨_, rfl⟩
    have hc3 : Boxed w3 (w.heap.size + 1) 3 (.int .i64 ((pre.length : Int) + 1)) := by rw [← hw3]; exact hc.set _
    have hr3 : Boxed w3 w.heap.size 27 (.int .i64 0) := by rw [← hw3]; exact hr0.other (by omega) _
    have hx3 : w3.heap[Bx]? = some (Obj.cells (ndC x) 104) := by rw [← hw3]; exact ws_set hx (by omega) _
    have hk3 : Kp w.heap.size W' w3 := by rw [← hw3]; exact kp_set hc (by unfold WalkTy; decide) (by omega) _
    have hf3 : KeepsFrom w2.heap.size W' w3 := by rw [← hw3]; exact (KeepsOthers.setCell _ _ _).from _
    have hB3 : Below w.heap.size w w3 := hB.trans hk3.below
    have hcc := hc.cell
    have hcf := hc.frozen
    have hc3c := hc3.cell
    have hr3c := hr3.cell
    have hr3f := hr3.frozen
    have e0 := cells_at hx3 0 _ rfl
    have e1 := cells_at hx3 1 _ rfl
    have e2 := cells_at hx3 2 _ rfl
    have e3 := cells_at hx3 3 _ rfl
    have e4 := cells_at hx3 4 _ rfl
    have e5 := cells_at hx3 5 _ rfl
    have e6 := cells_at hx3 6 _ rfl
    have e7 := cells_at hx3 7 _ rfl
    have WC : Hid (Calls Tryz.prog 48 #[.agg #[.int .i64 x.dp, .bool x.isT, .int .i64 x.op, .int .i64 x.top, .string x.name, .int .i64 x.num, .int .i64 (x.terms : Nat), .int .i64 (x.args : Nat)]] w3 fun e w' => e = .returned (.bool (wellN nmB x)) ∧ Below w3.heap.size w3 w' ∧ Boxed w' w.heap.size 27 (.int .i64 0)) :=
      (wellN_at x w3 hz).mono (fun e w' h => ⟨h.1, h.2, box_keep hr3 h.2⟩)
    by_cases h1 : 500 < pre.length + 1
    · have HE : Hid ((run0 nmB (vals (pre ++ [⟨x, hz⟩]))).e = 73) := by show _ = _; rw [HV.out]; exact run_many HR.out (by rw [HL.out]; exact h1)
      have h1' : (500 : Int) < (pre.length : Int) + 1 := by omega
      gi_wp2
      exact ⟨hf3.trans ((KeepsOthers.setCell _ _ _).from _), rfl, by rw [HE.out]; exact hr3.set _, by rw [HE.out]; decide, hB3.setCell (p := ⟨w.heap.size, 0, none⟩) (Nat.le_refl _) _⟩
    · have h1' : (pre.length : Int) + 1 ≤ 500 := by omega
      by_cases h2 : 40 < x.dp
      · have HE : Hid ((run0 nmB (vals (pre ++ [⟨x, hz⟩]))).e = 72) := by show _ = _; rw [HV.out]; exact run_deep HR.out (by rw [HL.out]; exact h1) h2
        gi_wp2
        exact ⟨hf3.trans ((KeepsOthers.setCell _ _ _).from _), rfl, by rw [HE.out]; exact hr3.set _, by rw [HE.out]; decide, hB3.setCell (p := ⟨w.heap.size, 0, none⟩) (Nat.le_refl _) _⟩
      · have h2' : x.dp ≤ 40 := by omega
        cases h3 : wellN nmB x with
        | false =>
          have HE : Hid ((run0 nmB (vals (pre ++ [⟨x, hz⟩]))).e = 3) := by show _ = _; rw [HV.out]; exact run_bad HR.out (by rw [HL.out]; exact h1) h2 h3
          rw [h3] at WC
          gi_wp2
          refine ⟨trivial, ?_⟩
          refine (CallsIn.inRound l (callsIn_wide.2 WC.out)).mono ?_
          rintro e w4 ⟨rfl, hB4, hr4⟩
          have hr4c := hr4.cell
          have hr4f := hr4.frozen
          gi_wp2
          exact ⟨hf3.trans ((keeps_of hB4).trans ((KeepsOthers.setCell _ _ _).from _)), rfl, by rw [HE.out]; exact hr4.set _, by rw [HE.out]; decide, (hB3.trans (hB4.mono hB3.size)).setCell (p := ⟨w.heap.size, 0, none⟩) (Nat.le_refl _) _⟩
        | true =>
          have HE : Hid ((run0 nmB (vals (pre ++ [⟨x, hz⟩]))).e = 0) := by show _ = _; rw [HV.out]; exact run_ok HR.out (by rw [HL.out]; exact h1) h2 h3
          rw [h3] at WC
          gi_wp2
          refine ⟨trivial, ?_⟩
          refine (CallsIn.inRound l (callsIn_wide.2 WC.out)).mono ?_
          rintro e w4 ⟨rfl, hB4, hr4⟩
          gi_wp2
          exact ⟨hf3.trans (keeps_of hB4), hk3.trans (Kp.of hB4 hB3.size), by have := box_keep hc3 hB4; simpa using this, hr4, HE.out, hB3.trans (hB4.mono hB3.size)⟩
  case done =>
    rintro D ys W' hD hS ⟨hc, hr0, hrun, hB⟩ hK
    have hrc := hr0.cell
    have hrf := hr0.frozen
    have HE : Hid (chkT nmB f = 0) := by
      show _ = _
      rw [chkT_run, ← show vals ys = ndT f 1 from hS]
      exact hrun
    clear hrun hS
    gi_wp2
    have hK' := def_set hK rfl ⟨w.heap.size, 0, none⟩ (.int .i64 0)
    refine ⟨by simp, .inl ⟨_, _, rfl, run_takeDeferred hK', ?_⟩⟩
    have hc5 := (box_put (hr0.set (.int .i64 0)) hK').cell
    refine ⟨.int .i64 0, ?_, by rw [HE.out]; rfl, below_put (hB.setCell (p := ⟨w.heap.size, 0, none⟩) (Nat.le_refl _) _) (by omega)⟩
    simp [results, Tryz.results28, go_sem, hc5]
  case stop =>
    rintro D c ys W' hD hS ⟨rfl, hr0, hrun, hB⟩ hK
    have HE : Hid (chkT nmB f = (run0 nmB (vals ys)).e) := by
      show _ = _
      rw [chkT_run, run_pre (show vals ys <+: ndT f 1 from hS) hrun]
    clear hrun hS
    gi_wp2
    refine ⟨by simp, .inl ⟨_, _, rfl, run_takeDeferred hK, ?_⟩⟩
    have hc5 := (box_put hr0 hK).cell
    refine ⟨_, ?_, by rw [HE.out], below_put hB (by omega)⟩
    simp [results, Tryz.results28, go_sem, hc5]
/-- tree.CheckTerm -/
theorem checkT_run (W : World) (f : Tm) (v : Value) (w : World) (hv : TmV W f v) (hW : Below W.heap.size W w) :
    Calls Tryz.prog 22 #[v] w fun e w' => e = .returned (.int .i64 (chkT nmB f : Nat)) ∧ Below w.heap.size w w' := by
  obtain ⟨c0, c1, c2, c3, rfl, hr⟩ := hv
  have hr' := hr
  obtain ⟨o, n, x, a⟩ := f
  rw [RdT] at hr
  obtain ⟨rfl, rfl, rfl, hbd, ao, ca, rfl, -⟩ := hr
  obtain ⟨b, hb⟩ : ∃ b, Obj.cells #[.int .i64 o, .int .i64 n, .string x, .slice ao a.length ca] 42 = b := ⟨_, rfl⟩
  have hB : Below w.heap.size w ((w.alloc b).alloc b) := ((Below.refl _ _).alloc (Nat.le_refl _) _).alloc (by simp) _
  have RC : Hid (Calls Tryz.prog 28 #[.func (.func 60) #[] #[.pointer (some ⟨w.heap.size + 1, 0, none⟩)]] ((w.alloc b).alloc b) fun e w' => e = .returned (.int .i64 (chkT nmB (.mk o n x a) : Nat)) ∧ Below w.heap.size w w') := by
    refine (checkT_at W (.mk o n x a) (w.heap.size + 1) _ (hW.trans (hB.mono hW.size)) ⟨_, _, _, _, ?_, hr'⟩).mono (fun e w' h => ⟨h.1, hB.trans (h.2.mono hB.size)⟩)
    rw [hb]
    have := World.alloc_heap_new (w.alloc b) b
    rwa [World.size_alloc] at this
  subst hb
  clear hr' hB
  generalize chkT nmB (.mk o n x a) = r at *
  go_enter Tryz.func22, Tryz.ntmps22
  go_wp2_with (first
    | (go_at_call 40; refine (termNodes_at _ _ _ _ _ _ _).mono ?_; rintro e w2 ⟨rfl, rfl⟩)
    | (go_at_call 28; refine RC.out.mono ?_; rintro e w3 ⟨rfl, hB3⟩))
  go_ret
  exact ⟨rfl, hB3⟩
theorem heap2_new (w : World) (A B : Obj) : ((w.alloc A).alloc B).heap[w.heap.size + 1]? = some B := by
  have := heap_alloc_new (w.alloc A) B
  rwa [World.size_alloc] at this
set_option maxRecDepth 100000 in
set_option maxHeartbeats 1000000 in
theorem rcheckT_at (W : World) (f : Tm) (v : Value) (w : World) (hv : TmV W f v) (hW : Below W.heap.size W w) :
    Calls Tryz.prog 13 #[v] w fun e w' => e = .returned (.int .i64 (chkT nmB f : Nat)) ∧ Below w.heap.size w w' := by
  obtain ⟨s, hs⟩ : ∃ s, meterT nmB f 1 ⟨0, 0, 0⟩ = s := ⟨_, rfl⟩
  have FH : Hid (∀ b w, W.heap.size ≤ b → Below W.heap.size W w → MtIs w b ⟨0, 0, 0⟩ → Calls Tryz.prog 26 #[.pointer (some ⟨b, 0, none⟩), v, .int .i64 1] w fun e w' => e = .returned (.tuple #[]) ∧ MtIs w' b s ∧ But b w w') := fun b w h1 h2 h3 => by
    have := rterm_at W b h1 f v 1 ⟨0, 0, 0⟩ w hv h2 h3 ⟨by decide, by decide, fun _ => by decide⟩ rfl (by decide)
    rwa [hs] at this
  unfold chkT
  rw [hs]
  have hWs := hW.size
  obtain ⟨c0, c1, c2, c3, rfl, _⟩ := hv
  clear hs
  go_enter Tryz.func13, Tryz.ntmps13
  go_wp2_with (fail)
  refine (FH.out (w.heap.size + 1) _ (by omega) (hW.trans ((bta (bta0 _ _) _).mono hWs)) ⟨(0, 0), heap2_new _ _ _⟩).mono ?_
  rintro e w3 ⟨rfl, hM3, hU3⟩
  obtain ⟨m0, m1, m2, n0, n1, n2⟩ := mt_cells hM3
  have hB : Below w.heap.size w w3 := (bta (bta0 w _) _).trans (hU3.below (by omega) (by simp; omega))
  clear FH hU3
  go_wp2
  go_ret
  exact ⟨rfl, hB⟩
end Go.Proofs.YtncgmnijgdfenaaGreatDoor.Gl
/- What a tree in memory has; how long its text is. -/
namespace Go.Proofs.YtncgmnijgdfenaaGreatDoor.Gl
open Go Go.RowKit
set_option linter.unusedVariables false
set_option linter.unusedSimpArgs false

theorem rdt_nums {W : World} : ∀ t c0 c1 c2 c3, RdT W t c0 c1 c2 c3 → t.all nT = true := by
  refine Tm.ind (fun o n x a ih c0 c1 c2 c3 h => ?_)
  rw [RdT] at h
  obtain ⟨-, -, -, hb, ao, cap, -, -, -, hL⟩ := h
  have key : ∀ (l : List Tm) j, (∀ t ∈ l, t ∈ a) → RdTL W l ao j → Tm.allL nT l = true := by
    intro l
    induction l with
    | nil => intro j _ _; rw [Tm.allL]
    | cons t r ihr =>
      intro j hm hr
      rw [RdTL] at hr
      obtain ⟨⟨g, of, d0, d1, d2, d3, -, -, -, -, -, -, hrd⟩, hrest⟩ := hr
      rw [Tm.allL, ih t (hm t (List.mem_cons_self ..)) _ _ _ _ hrd, ihr _ (fun u hu => hm u (List.mem_cons_of_mem _ hu)) hrest]
      rfl
  rw [Tm.all, key a 0 (fun _ h => h) hL, Bool.and_true]
  exact decide_eq_true hb.2.1.2
theorem rdtl_nums {W : World} (ao : Option Addr) : ∀ (l : List Tm) j, RdTL W l ao j → Tm.allL nT l = true := by
  intro l
  induction l with
  | nil => intro j _; rw [Tm.allL]
  | cons t r ihr =>
    intro j hr
    rw [RdTL] at hr
    obtain ⟨⟨g, of, d0, d1, d2, d3, -, -, -, -, -, -, hrd⟩, hrest⟩ := hr
    rw [Tm.allL, rdt_nums t _ _ _ _ hrd, ihr _ hrest]
    rfl
theorem rdf_nums {W : World} : ∀ f c0 c1 c2 c3 c4, RdF W f c0 c1 c2 c3 c4 → f.all nT nF = true := by
  refine Fm.ind (fun o x m t a ih c0 c1 c2 c3 c4 h => ?_)
  rw [RdF] at h
  obtain ⟨-, -, -, hb, ⟨bo, ct, -, -, -, hT⟩, ao, cap, -, -, -, hL⟩ := h
  have key : ∀ (l : List Fm) j, (∀ t ∈ l, t ∈ a) → RdFL W l ao j → Fm.allL nT nF l = true := by
    intro l
    induction l with
    | nil => intro j _ _; rw [Fm.allL]
    | cons t r ihr =>
      intro j hm hr
      rw [RdFL] at hr
      obtain ⟨⟨g, of, d0, d1, d2, d3, d4, -, -, -, -, -, -, -, hrd⟩, hrest⟩ := hr
      rw [Fm.allL, ih t (hm t (List.mem_cons_self ..)) _ _ _ _ _ hrd, ihr _ (fun u hu => hm u (List.mem_cons_of_mem _ hu)) hrest]
      rfl
  rw [Fm.all, rdtl_nums bo t 0 hT, key a 0 (fun _ h => h) hL, Bool.and_true, Bool.and_true]
  exact decide_eq_true hb.2.1.2
/- lengths -/
theorem dec_short : ∀ k n : Nat, n < 10 ^ (k + 1) → (decL n).length ≤ k + 1 := by
  intro k
  induction k with
  | zero => intro n h; rw [dec_lt (by simpa using h)]; simp
  | succ k ih =>
    intro n h
    by_cases h10 : n < 10
    · rw [dec_lt h10]; simp
    · have := ih (n / 10) (by rw [Nat.pow_succ] at h; omega)
      rw [dec_ge h10, List.length_append]
      simp only [List.length_singleton]
      omega
theorem dec_20 {n : Int} (h : n ≤ 9223372036854775807) : (dec n.toNat).size ≤ 20 := by
  rw [dec_size]
  exact dec_short 19 _ (by have : (10 : Nat) ^ (19 + 1) = 100000000000000000000 := by decide
                           omega)
theorem name_short {x : ByteArray} (h : IsName x) : x.size ≤ 64 := by
  obtain ⟨⟨n, hn, h1, h16, hm⟩, hr⟩ := h
  have key : ∀ k, k ≤ n → pos x k ≤ 4 * k := by
    intro k
    induction k with
    | zero => intro _; rw [pos_zero]; omega
    | succ k ih => intro hk; rw [pos_succ]; have := ih (by omega); have := (rd_bd x (pos x k) (hn.2 k (by omega))).2.2; omega
  have := key n (Nat.le_refl _)
  rw [hn.1] at this
  omega
theorem hl_len (v : Int) (pl : Nat) (t : Tm) : (hlT v pl t).length ≤ (tbs (shT t)).length + 2 := by
  unfold hlT
  split
  · simp only [List.length_cons, List.length_append, List.length_nil]; omega
  · omega
theorem sg_small (o : Int) : (tbs (tsg o)).length ≤ 3 ∧ (tbs (jsg o)).length ≤ 3 ∧ (tbs (qsg o)).length ≤ 3 ∧ (tbs (rsg o)).length ≤ 3 := by
  refine ⟨?_, ?_, ?_, ?_⟩
  · unfold tsg; split
    · decide
    · split <;> decide
  · unfold jsg sgOf; split <;> decide
  · unfold qsg; split <;> decide
  · unfold rsg
    have : ∀ i, i < 7 → (tbs (rels.getD i emp)).length ≤ 3 := by decide +kernel
    by_cases h : (o - 9).toNat < 7
    · exact this _ h
    · rw [List.getD_eq_getElem?_getD, List.getElem?_eq_none (by show 7 ≤ _; omega)]; decide
theorem tm_len : ∀ t : Tm, t.all (wellT nmB) = true → t.all nT = true → (tbs (shT t)).length ≤ 100 * t.size := by
  refine Tm.ind (fun o n x a ih h hn => ?_)
  rw [Tm.size]
  rcases well_tm (all_own h) with ⟨rfl, h0, rfl, rfl⟩ | ⟨rfl, rfl, hx, rfl⟩ | ⟨rfl, rfl, rfl, t, rfl⟩ | ⟨ho, rfl, rfl, t, u, rfl⟩
  · rw [tt_num, tb_len]
    have := dec_20 (n := n) (of_decide_eq_true (all_own hn))
    omega
  · rw [tt_nam, tb_len]
    have := name_short ((nmB_iff x).1 hx)
    omega
  · rw [tt_neg, List.length_cons, Tm.sizeL, Tm.sizeL]
    have := hl_len 2 0 t
    have := ih t (by simp) (all_one h).2 (all_one hn).2
    omega
  · rw [tt_two ho, Tm.sizeL, Tm.sizeL, Tm.sizeL]
    simp only [List.length_append, List.length_cons]
    have := hl_len o 0 t
    have := hl_len o 1 u
    have := (sg_small o).1
    have := ih t (by simp) (all_two h).2.1 (all_two hn).2.1
    have := ih u (by simp) (all_two h).2.2 (all_two hn).2.2
    omega
theorem fm_len : ∀ f : Fm, f.all (wellT nmB) (wellF nmB) = true → f.all nT nF = true → (tbs (shF f)).length ≤ 100 * f.size := by
  refine Fm.ind (fun o x m t a ih h hn => ?_)
  obtain ⟨h1, h2, h3⟩ := fll_own h
  obtain ⟨n1, n2, n3⟩ := fll_own hn
  obtain ⟨s1, s2, s3, s4⟩ := sg_small o
  rw [Fm.size]
  have hsh := well_fm h1
  cases hsh with
  | leaf ho =>
    rcases ho with rfl | rfl
    · rw [tf_tru]; have : (tbs kTrue).length = 4 := rfl; omega
    · rw [tf_fls]; have : (tbs kFalse).length = 5 := rfl; omega
  | @not f =>
    have e : tbs kNot = [110, 111, 116] := rfl
    rw [tf_not, e, Fm.sizeL, Fm.sizeL]
    simp only [List.length_append, List.length_cons, List.length_nil]
    have := ih f (by simp) (fl_one h3) (fl_one n3)
    omega
  | @pair o f g ho1 ho2 =>
    rw [tf_pair ho1 ho2, Fm.sizeL, Fm.sizeL, Fm.sizeL]
    simp only [List.length_append, List.length_cons, List.length_nil]
    have := ih f (by simp) (fl_two h3).1 (fl_two n3).1
    have := ih g (by simp) (fl_two h3).2 (fl_two n3).2
    omega
  | @qu o x f ho hx =>
    rw [tf_qu ho, Fm.sizeL, Fm.sizeL]
    simp only [List.length_append, List.length_cons, tb_len x]
    have := name_short ((nmB_iff x).1 hx)
    have := ih f (by simp) (fl_one h3) (fl_one n3)
    omega
  | @rel o t u ho1 ho2 =>
    rw [tf_rel ho1 ho2, Tm.sizeL, Tm.sizeL, Tm.sizeL]
    simp only [List.length_append, List.length_cons]
    have := tm_len t (tl_two h2).1 (tl_two n2).1
    have := tm_len u (tl_two h2).2 (tl_two n2).2
    omega
  | @cong m t u hm =>
    rw [tf_cong, Tm.sizeL, Tm.sizeL, Tm.sizeL]
    simp only [List.length_append, List.length_cons, tb_len (dec _)]
    have := tm_len t (tl_two h2).1 (tl_two n2).1
    have := tm_len u (tl_two h2).2 (tl_two n2).2
    have := dec_20 (n := m) (of_decide_eq_true n1)
    have : (tbs kMod).length = 3 := rfl
    omega
theorem pos_len {l : List UInt8} (h : 0 < l.length) : l ≠ [] := fun e => by rw [e] at h; simp at h
theorem fm_some : ∀ f : Fm, f.all (wellT nmB) (wellF nmB) = true → 0 < (tbs (shF f)).length := by
  refine Fm.ind (fun o x m t a ih h => ?_)
  obtain ⟨h1, h2, h3⟩ := fll_own h
  have hsh := well_fm h1
  cases hsh with
  | leaf ho =>
    rcases ho with rfl | rfl
    · rw [tf_tru]; decide
    · rw [tf_fls]; decide
  | @not f => rw [tf_not]; simp only [List.length_append, List.length_cons]; omega
  | @pair o f g ho1 ho2 => rw [tf_pair ho1 ho2, List.length_cons]; omega
  | @qu o x f ho hx => rw [tf_qu ho, List.length_append, List.length_cons]; omega
  | @rel o t u ho1 ho2 => rw [tf_rel ho1 ho2, List.length_append, List.length_cons]; omega
  | @cong m t u hm => rw [tf_cong, List.length_append, List.length_cons]; omega
theorem tm_some (t : Tm) (h : t.all (wellT nmB) = true) : 0 < (tbs (shT t)).length := by
  obtain ⟨o, n, x, a⟩ := t
  rcases well_tm (all_own h) with ⟨rfl, h0, rfl, rfl⟩ | ⟨rfl, rfl, hx, rfl⟩ | ⟨rfl, rfl, rfl, t, rfl⟩ | ⟨ho, rfl, rfl, t, u, rfl⟩
  · rw [tt_num, tb_len, dec_size]; exact (dec_all _).1
  · rw [tt_nam, tb_len]
    obtain ⟨⟨n, hn, h1, h16, hm⟩, hr⟩ := (nmB_iff x).1 hx
    exact (hm 0 (by omega)).1
  · rw [tt_neg, List.length_cons]; omega
  · rw [tt_two ho, List.length_append, List.length_cons]; omega
end Go.Proofs.YtncgmnijgdfenaaGreatDoor.Gl
/- show.Formula and show.Term. -/
namespace Go.Proofs.YtncgmnijgdfenaaGreatDoor.Gl
open Go Go.RowKit
set_option linter.unusedVariables false
set_option linter.unusedSimpArgs false

set_option maxRecDepth 100000 in
set_option maxHeartbeats 2000000 in
theorem whole_fm_no (W : World) (f : Fm) (v : Value) (w : World) (hv : FmV W f v) (hW : Below W.heap.size W w) (h : chk nmB f ≠ 0) :
    Calls Tryz.prog 14 #[v, .func (.func 15) #[] #[], .func (.func 16) #[] #[]] w fun e w' => e = .returned (.tuple #[.string emp, .int .i64 (chk nmB f : Nat)]) ∧ Below w.heap.size w w' := by
  have CK := mkHid (fun w h => check_run W f v w hv h)
  have hWs := hW.size
  obtain ⟨c0, c1, c2, c3, c4, rfl, -⟩ := hv
  generalize chk nmB f = c at *
  have hWa := mkHid (bel_alloc hW hWs (.cells #[c0, c1, c2, c3, c4] 26))
  have hn : ((c : Int) == 0) = false := by rw [beq_eq_false_iff_ne]; omega
  have hB0 := mkHid ((Below.refl w.heap.size w).alloc (Nat.le_refl _) (.cells #[c0, c1, c2, c3, c4] 26))
  clear hW h
  go_enter Tryz.func14, Tryz.ntmps14
  go_wp2_with (go_at_call 15; refine (CK.out _ hWa.out).mono ?_; rintro e w2 ⟨rfl, hB2⟩)
  go_ret2
  exact ⟨rfl, hB0.out.trans (hB2.mono (by rw [World.size_alloc]; omega))⟩
set_option maxRecDepth 100000 in
set_option maxHeartbeats 2000000 in
theorem whole_fm_yes (W : World) (f : Fm) (v : Value) (w : World) (hv : FmV W f v) (hW : Below W.heap.size W w) (hP : Pw W) (h : chk nmB f = 0) :
    Calls Tryz.prog 14 #[v, .func (.func 15) #[] #[], .func (.func 16) #[] #[]] w fun e w' => e = .returned (.tuple #[.string (shF f), .int .i64 0]) ∧ Below w.heap.size w w' := by
  have CK := mkHid (fun w h => check_run W f v w hv h)
  have hWs := hW.size
  obtain ⟨hsz, hdp, hall⟩ := (chk_iff nmB f).1 h
  rw [h] at CK
  obtain ⟨c0, c1, c2, c3, c4, rfl, hr⟩ := hv
  have hnum := rdf_nums f _ _ _ _ _ hr
  have hln := fm_len f hall hnum
  have WR := mkHid (fun (b : Nat) (hb : W.heap.size ≤ b) w hW hB => formula_show hb hP f hall hnum _ _ _ _ _ hr w [] hW hB (by simp only [List.length_nil]; omega))
  have hne := mkHid (pos_len (fm_some f hall))
  have hEQ := mkHid (tb_mk (shF f))
  generalize tbs (shF f) = bs at *
  have hWa := mkHid (bel_alloc hW hWs (.cells #[c0, c1, c2, c3, c4] 26))
  have hB0 := mkHid ((Below.refl w.heap.size w).alloc (Nat.le_refl _) (.cells #[c0, c1, c2, c3, c4] 26))
  clear hW h hr hall hnum hln hP hsz hdp
  go_enter Tryz.func14, Tryz.ntmps14
  go_wp2_with (fail)
  refine (CK.out _ hWa.out).mono ?_
  rintro e w2 ⟨rfl, hB2⟩
  have hs2 := hB2.size
  rw [World.size_alloc] at hs2
  have hK2 := mkHid (Kw.of (b := w.heap.size) hB2 (by rw [World.size_alloc]; omega))
  have hbx : ∀ o, (w2.alloc (.cells #[.pointer none, .slice none 0 0] WT)).cell? ⟨w.heap.size, o, none⟩ = #[c0, c1, c2, c3, c4][o]? := fun o => by
    rw [Lib.cell_of_heap ((heap_alloc_old w2 _ (by omega)).trans ((hB2.block w.heap.size (by rw [World.size_alloc]; omega)).trans (heap_alloc_new w _)))]
  have x0 := hbx 0
  have x1 := hbx 1
  have x2 := hbx 2
  have x3 := hbx 3
  have x4 := hbx 4
  have hW2 := mkHid (hWa.out.trans (hB2.mono (by rw [World.size_alloc]; omega)))
  have hW3 := mkHid (bel_alloc hW2.out (by omega) (.cells #[.pointer none, .slice none 0 0] WT))
  have W1 := mkHid (WR.out w2.heap.size (by omega) _ hW3.out (bw_new w2))
  have hB2' := mkHid (hB0.out.trans (hB2.mono (by rw [World.size_alloc]; omega)))
  clear hB2 hbx
  go_wp2_with (fail)
  refine W1.out.mono ?_
  rintro e w4 ⟨rfl, hb4, hk4⟩
  rw [List.nil_append] at hb4
  have S1 := mkHid (str_at w2.heap.size bs w4 hb4 hne.out)
  have hk4' := mkHid hk4
  clear hb4 hk4
  go_wp2_with (fail)
  refine S1.out.mono ?_
  rintro e w5 ⟨rfl, hB5⟩
  have hB6 := mkHid (((hB2'.out.alloc (by omega) (.cells #[.pointer none, .slice none 0 0] WT)).trans (hk4'.out.1.mono (by omega))).trans (hB5.mono (by omega)))
  clear hB5
  go_wp2
  go_ret2
  exact ⟨by rw [hEQ.out]; rfl, hB6.out⟩
set_option maxRecDepth 100000 in
set_option maxHeartbeats 2000000 in
theorem fm_show (W : World) (f : Fm) (v : Value) (w : World) (hv : FmV W f v) (hW : Below W.heap.size W w) (hP : Pw W) :
    Calls Tryz.prog 6 #[v] w fun e w' => e = .returned (.tuple #[.string (if chk nmB f = 0 then shF f else emp), .int .i64 (chk nmB f : Nat)]) ∧ Below w.heap.size w w' := by
  have WC := mkHid (fun w (hW : Below W.heap.size W w) => show Calls Tryz.prog 14 #[v, .func (.func 15) #[] #[], .func (.func 16) #[] #[]] w fun e w' => e = .returned (.tuple #[.string (if chk nmB f = 0 then shF f else emp), .int .i64 (chk nmB f : Nat)]) ∧ Below w.heap.size w w' by
    by_cases h : chk nmB f = 0
    · rw [if_pos h, h]; exact whole_fm_yes W f v w hv hW hP h
    · rw [if_neg h]; exact whole_fm_no W f v w hv hW h)
  have hWs := hW.size
  obtain ⟨c0, c1, c2, c3, c4, rfl, -⟩ := hv
  generalize (if chk nmB f = 0 then shF f else emp) = s at *
  generalize chk nmB f = c at *
  have hWa := mkHid (bel_alloc hW hWs (.cells #[c0, c1, c2, c3, c4] 26))
  have hB0 := mkHid ((Below.refl w.heap.size w).alloc (Nat.le_refl _) (.cells #[c0, c1, c2, c3, c4] 26))
  clear hW hP
  go_enter Tryz.func6, Tryz.ntmps6
  go_wp2_with (go_at_call 14; refine (WC.out _ hWa.out).mono ?_; rintro e w2 ⟨rfl, hB2⟩)
  go_ret2
  exact ⟨rfl, hB0.out.trans (hB2.mono (by rw [World.size_alloc]; omega))⟩
set_option maxRecDepth 100000 in
set_option maxHeartbeats 2000000 in
theorem whole_tm_no (W : World) (f : Tm) (v : Value) (w : World) (hv : TmV W f v) (hW : Below W.heap.size W w) (h : chkT nmB f ≠ 0) :
    Calls Tryz.prog 21 #[v, .func (.func 22) #[] #[], .func (.func 23) #[] #[]] w fun e w' => e = .returned (.tuple #[.string emp, .int .i64 (chkT nmB f : Nat)]) ∧ Below w.heap.size w w' := by
  have CK := mkHid (fun w h => checkT_run W f v w hv h)
  have hWs := hW.size
  obtain ⟨c0, c1, c2, c3, rfl, -⟩ := hv
  generalize chkT nmB f = c at *
  have hWa := mkHid (bel_alloc hW hWs (.cells #[c0, c1, c2, c3] 42))
  have hn : ((c : Int) == 0) = false := by rw [beq_eq_false_iff_ne]; omega
  have hB0 := mkHid ((Below.refl w.heap.size w).alloc (Nat.le_refl _) (.cells #[c0, c1, c2, c3] 42))
  clear hW h
  go_enter Tryz.func21, Tryz.ntmps21
  go_wp2_with (go_at_call 22; refine (CK.out _ hWa.out).mono ?_; rintro e w2 ⟨rfl, hB2⟩)
  go_ret2
  exact ⟨rfl, hB0.out.trans (hB2.mono (by rw [World.size_alloc]; omega))⟩
set_option maxRecDepth 100000 in
set_option maxHeartbeats 2000000 in
theorem whole_tm_yes (W : World) (f : Tm) (v : Value) (w : World) (hv : TmV W f v) (hW : Below W.heap.size W w) (hP : Pw W) (h : chkT nmB f = 0) :
    Calls Tryz.prog 21 #[v, .func (.func 22) #[] #[], .func (.func 23) #[] #[]] w fun e w' => e = .returned (.tuple #[.string (shT f), .int .i64 0]) ∧ Below w.heap.size w w' := by
  have CK := mkHid (fun w h => checkT_run W f v w hv h)
  have hWs := hW.size
  obtain ⟨hsz, hdp, hall⟩ := (chkT_iff nmB f).1 h
  rw [h] at CK
  obtain ⟨c0, c1, c2, c3, rfl, hr⟩ := hv
  have hnum := rdt_nums f _ _ _ _ hr
  have hln := tm_len f hall hnum
  have WR := mkHid (fun (b : Nat) (hb : W.heap.size ≤ b) w hW hB => term_at hb hP f hall hnum _ _ _ _ hr w [] hW hB (by simp only [List.length_nil]; omega))
  have hne := mkHid (pos_len (tm_some f hall))
  have hEQ := mkHid (tb_mk (shT f))
  generalize tbs (shT f) = bs at *
  have hWa := mkHid (bel_alloc hW hWs (.cells #[c0, c1, c2, c3] 42))
  have hB0 := mkHid ((Below.refl w.heap.size w).alloc (Nat.le_refl _) (.cells #[c0, c1, c2, c3] 42))
  clear hW h hr hall hnum hln hP hsz hdp
  go_enter Tryz.func21, Tryz.ntmps21
  go_wp2_with (fail)
  refine (CK.out _ hWa.out).mono ?_
  rintro e w2 ⟨rfl, hB2⟩
  have hs2 := hB2.size
  rw [World.size_alloc] at hs2
  have hK2 := mkHid (Kw.of (b := w.heap.size) hB2 (by rw [World.size_alloc]; omega))
  have hbx : ∀ o, (w2.alloc (.cells #[.pointer none, .slice none 0 0] WT)).cell? ⟨w.heap.size, o, none⟩ = #[c0, c1, c2, c3][o]? := fun o => by
    rw [Lib.cell_of_heap ((heap_alloc_old w2 _ (by omega)).trans ((hB2.block w.heap.size (by rw [World.size_alloc]; omega)).trans (heap_alloc_new w _)))]
  have x0 := hbx 0
  have x1 := hbx 1
  have x2 := hbx 2
  have x3 := hbx 3
  have hW2 := mkHid (hWa.out.trans (hB2.mono (by rw [World.size_alloc]; omega)))
  have hW3 := mkHid (bel_alloc hW2.out (by omega) (.cells #[.pointer none, .slice none 0 0] WT))
  have W1 := mkHid (WR.out w2.heap.size (by omega) _ hW3.out (bw_new w2))
  have hB2' := mkHid (hB0.out.trans (hB2.mono (by rw [World.size_alloc]; omega)))
  clear hB2 hbx
  go_wp2_with (fail)
  refine W1.out.mono ?_
  rintro e w4 ⟨rfl, hb4, hk4⟩
  rw [List.nil_append] at hb4
  have S1 := mkHid (str_at w2.heap.size bs w4 hb4 hne.out)
  have hk4' := mkHid hk4
  clear hb4 hk4
  go_wp2_with (fail)
  refine S1.out.mono ?_
  rintro e w5 ⟨rfl, hB5⟩
  have hB6 := mkHid (((hB2'.out.alloc (by omega) (.cells #[.pointer none, .slice none 0 0] WT)).trans (hk4'.out.1.mono (by omega))).trans (hB5.mono (by omega)))
  clear hB5
  go_wp2
  go_ret2
  exact ⟨by rw [hEQ.out]; rfl, hB6.out⟩
set_option maxRecDepth 100000 in
set_option maxHeartbeats 2000000 in
theorem tm_show (W : World) (f : Tm) (v : Value) (w : World) (hv : TmV W f v) (hW : Below W.heap.size W w) (hP : Pw W) :
    Calls Tryz.prog 11 #[v] w fun e w' => e = .returned (.tuple #[.string (if chkT nmB f = 0 then shT f else emp), .int .i64 (chkT nmB f : Nat)]) ∧ Below w.heap.size w w' := by
  have WC := mkHid (fun w (hW : Below W.heap.size W w) => show Calls Tryz.prog 21 #[v, .func (.func 22) #[] #[], .func (.func 23) #[] #[]] w fun e w' => e = .returned (.tuple #[.string (if chkT nmB f = 0 then shT f else emp), .int .i64 (chkT nmB f : Nat)]) ∧ Below w.heap.size w w' by
    by_cases h : chkT nmB f = 0
    · rw [if_pos h, h]; exact whole_tm_yes W f v w hv hW hP h
    · rw [if_neg h]; exact whole_tm_no W f v w hv hW h)
  have hWs := hW.size
  obtain ⟨c0, c1, c2, c3, rfl, -⟩ := hv
  generalize (if chkT nmB f = 0 then shT f else emp) = s at *
  generalize chkT nmB f = c at *
  have hWa := mkHid (bel_alloc hW hWs (.cells #[c0, c1, c2, c3] 42))
  have hB0 := mkHid ((Below.refl w.heap.size w).alloc (Nat.le_refl _) (.cells #[c0, c1, c2, c3] 42))
  clear hW hP
  go_enter Tryz.func11, Tryz.ntmps11
  go_wp2_with (go_at_call 21; refine (WC.out _ hWa.out).mono ?_; rintro e w2 ⟨rfl, hB2⟩)
  go_ret2
  exact ⟨rfl, hB0.out.trans (hB2.mono (by rw [World.size_alloc]; omega))⟩
end Go.Proofs.YtncgmnijgdfenaaGreatDoor.Gl
