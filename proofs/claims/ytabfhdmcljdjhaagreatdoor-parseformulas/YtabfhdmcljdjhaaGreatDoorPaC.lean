/- check, Check. -/
import Derived.Test.YtabfhdmcljdjhaaGreatDoorNdG
import Derived.Test.YtabfhdmcljdjhaaGreatDoorPaB
namespace Go.Proofs.YtabfhdmcljdjhaaGreatDoor.Gl
open Go.RowKit Go.Shelf
set_option linter.unusedVariables false
attribute [local go_sem] Oper.semAt_some

def vals (l : List NdS) : List Nd := l.map (·.1)
theorem vals_snoc (l : List NdS) (x : NdS) : vals (l ++ [x]) = vals l ++ [x.1] := by simp [vals]
theorem vals_len (l : List NdS) : (vals l).length = l.length := by simp [vals]
/- a block of cells abides -/
theorem cells_own {β : Type} (B : Nat) (b : β → Nat) (vs : β → Array Value) (t : TypeId) (B0 : Nat) : OwnFrom B0 (fun s W => W.heap[b s]? = some (Obj.cells (vs s) t)) := fun s X Y row hs hg hr =>
  (hg.block (b s) (Array.getElem?_eq_some_iff.1 hs).1 (fun e => by obtain ⟨_, o, ho, hc⟩ := hr _ e.symm; rw [hs] at ho; cases ho; cases hc)).trans hs
theorem keeps_of {B : Nat} {W W' : World} (h : Below W.heap.size W W') : KeepsFrom B W W' := ⟨h.size, fun k o _ hk _ => (h.block k (Array.getElem?_eq_some_iff.1 hk).1).trans hk⟩
theorem box_keep {W W' : World} {B : Nat} {t : TypeId} {v : Value} (h : Boxed W B t v) (hb : Below W.heap.size W W') : Boxed W' B t v := (hb.block B h.lt).trans h
theorem kp_set {lo B : Nat} {W : World} {t : TypeId} {v : Value} (h : Boxed W B t v) (ht : ¬ WalkTy t) (hlo : lo ≤ B) (u : Value) : Kp lo W (W.setCell ⟨B, 0, none⟩ u) :=
  Kp.one (grownBy_setCell' W B u) (Nat.le_trans hlo (Nat.le_of_lt h.lt)) hlo (fun vs t' m e => by rw [show W.heap[B]? = _ from h] at e; cases e; exact ht)
theorem ws_set {W : World} {B : Nat} {b : Nat} {vs : Array Value} {t : TypeId} (h : W.heap[b]? = some (Obj.cells vs t)) (hne : b ≠ B) (u : Value) : (W.setCell ⟨B, 0, none⟩ u).heap[b]? = some (Obj.cells vs t) := (Below.heap_setCell W _ u b hne).trans h

theorem box_put {W : World} {B D : Nat} {t : TypeId} {v : Value} (h : Boxed W B t v) (hK : W.heap[D]? = some (.deferred (some []))) : Boxed (W.putObj D (.deferred none)) B t v :=
  h.kept (grownBy_putObj' W D _) (fun e => by cases e; rw [show W.heap[B]? = _ from h] at hK; cases hK)
theorem below_put {w W : World} {D : Nat} (hB : Below w.heap.size w W) (hD : w.heap.size ≤ D) : Below w.heap.size w (W.putObj D (.deferred none)) :=
  hB.grown (grownBy_putObj' W D _) hB.size (fun k e => by cases e; exact hD)
theorem def_set {W : World} {D : Nat} {o : Obj} (hK : W.heap[D]? = some o) (ho : o.isCells = false) (p : Addr) (u : Value) : (W.setCell p u).heap[D]? = some o := (KeepsOthers.setCell W p u).same D _ hK ho

set_option maxRecDepth 100000 in
set_option maxHeartbeats 4000000 in
theorem check_at (W : World) (f : Fm) (Bf : Nat) (w : World) (hW : Below W.heap.size W w) (hb : BoxF w Bf f W) :
    Calls Tryz.prog 33 #[.func (.func 57) #[] #[.pointer (some ⟨Bf, 0, none⟩)]] w fun e w' => e = .returned (.int .i64 (chk nmB f : Nat)) ∧ Below w.heap.size w w' := by
  refine (callsIn_wide (n := 8)).1 ?_
  have hdd : ∀ k : Nat, (Fence.wide.depth.isSome = true → 1 ≤ k) := fun k h => by cases h
  refine callsIn_of_wp_marks Tryz.func33 rfl trivial ?_ rfl
  simp only [Tryz.ntmps33, List.size_toArray, List.length_cons, List.length_nil, Nat.reduceAdd, Nat.reduceSub, Array.replicate_succ, Array.replicate_zero, List.push_toArray, List.append_toArray, List.nil_append, List.cons_append]
  gi_wp2
  obtain ⟨w2, hw2⟩ : ∃ w2, (w.alloc (.cells #[.int .i64 0] 27)).alloc (.cells #[.int .i64 0] 3) = w2 := ⟨_, rfl⟩
  have hB2 : Below w.heap.size w w2 := by rw [← hw2]; exact ((Below.refl _ _).alloc (Nat.le_refl _) _).alloc (by simp) _
  have hbr : Boxed w2 w.heap.size 27 (.int .i64 0) := by rw [← hw2]; exact (Boxed.new w _ _).alloc _
  have hbc : Boxed w2 (w.heap.size + 1) 3 (.int .i64 0) := by
    rw [← hw2]; have := Boxed.new (w.alloc (.cells #[.int .i64 0] 27)) 3 (.int .i64 0); rwa [World.size_alloc] at this
  have hsz : w2.heap.size = w.heap.size + 2 := by rw [← hw2]; simp
  have hbf : BoxF w2 Bf f W := by obtain ⟨c0, c1, c2, c3, c4, hx, hr⟩ := hb; exact ⟨c0, c1, c2, c3, c4, (hB2.block Bf (Array.getElem?_eq_some_iff.1 hx).1).trans hx, hr⟩
  rw [hw2]
  refine wpIn_rangeFunc_ownH rfl (by omega) (gf := 57) (lb := #[.pointer (some ⟨Bf, 0, none⟩)]) rfl trivial (enters_of Tryz.func57 (by kernel_rfl) rfl)
    (nodes_stops (fun x => Sz x.name.size) W _ w.heap.size Bf f w2 hW.size (hW.trans (hB2.mono hW.size)) (by omega) hbf hbf.sz) (fun h k => h.trans k) (Kp.put (by omega)) (Below.refl _ _) (fun _ => rfl)
    (fun pre W' => Boxed W' (w.heap.size + 1) 3 (.int .i64 (pre.length : Nat)) ∧ Boxed W' w.heap.size 27 (.int .i64 0) ∧ (run0 nmB (vals pre)).e = 0 ∧ Below w.heap.size w W')
    (fun c pre W' => c = .ret ∧ Boxed W' w.heap.size 27 (.int .i64 ((run0 nmB (vals pre)).e : Nat)) ∧ (run0 nmB (vals pre)).e ≠ 0 ∧ Below w.heap.size w W')
    (OwnFrom.and (Own.from (boxed_own _ _ _) _) (OwnFrom.and (Own.from (boxed_own _ _ _) _) (OwnFrom.and (ownFrom_pure _ _) (ownFrom_below (Nat.le_refl _) (by omega)))))
    (fun c => OwnFrom.and (ownFrom_pure _ _) (OwnFrom.and (Own.from (boxed_own _ _ _) _) (OwnFrom.and (ownFrom_pure _ _) (ownFrom_below (Nat.le_refl _) (by omega)))))
    ⟨hbc, hbr, rfl, hB2⟩
    (fun x a' W' => ∃ Bx, w.heap.size + 1 < Bx ∧ W'.heap[Bx]? = some (Obj.cells (ndC x.1) 107) ∧ a' = { tmps := #[.func (.func 57) #[] #[.pointer (some ⟨Bf, 0, none⟩)], undef, .pointer (some ⟨w.heap.size, 0, none⟩), .pointer (some ⟨w.heap.size + 1, 0, none⟩), .pointer (some ⟨Bx, 0, none⟩), .func (.func 57) #[] #[.pointer (some ⟨Bf, 0, none⟩)], ndV x.1, undef, undef, undef, undef, undef, undef, undef, undef, undef, undef], defers := [] })
    ?hAx ?assign ?body ?done ?stop
  case hAx =>
    rintro x a' s X Y row ⟨Bx, h1, h2, h3⟩ hg hr
    exact ⟨Bx, h1, cells_own 0 (fun _ : Unit => Bx) (fun _ => ndC x.1) _ _ s X Y row h2 hg hr, h3⟩
  case assign =>
    rintro l pre x W' K ⟨h1, h2, h3, h4⟩ hK
    have hBa : Below W'.heap.size W' (W'.alloc (Obj.cells (ndC x.1) 107)) := (Below.refl _ _).alloc (Nat.le_refl _) _
    gi_wp2
    exact hK _ _ (keeps_of hBa) (Kp.of hBa h4.size) ⟨box_keep h1 hBa, box_keep h2 hBa, h3, h4.trans (hBa.mono h4.size)⟩ ⟨W'.heap.size, h1.lt, World.alloc_heap_new _ _, rfl⟩
  case body =>
    rintro l pre x a' W' hl _ ⟨hc, hr0, hrun, hB⟩ ⟨Bx, hBx, hx, rfl⟩ hlt
    clear hsz
    have hlen := (run_n (vals pre) hrun).2
    rw [vals_len] at hlen
    have HV : Hid (vals (pre ++ [x]) = vals pre ++ [x.1]) := vals_snoc pre x
    have HL : Hid ((vals pre).length = pre.length) := vals_len pre
    have HR : Hid ((run0 nmB (vals pre)).e = 0) := hrun
    clear hrun
    obtain ⟨x, hz⟩ := x
    dsimp only at hx HV ⊢
    obtain ⟨w3, hw3⟩ : ∃ w3, W'.setCell ⟨w.heap.size + 1, 0, none⟩ (.int .i64 ((pre.length : Int) + 1)) = w3 := ⟨_, rfl⟩
    have hc3 : Boxed w3 (w.heap.size + 1) 3 (.int .i64 ((pre.length : Int) + 1)) := by rw [← hw3]; exact hc.set _
    have hr3 : Boxed w3 w.heap.size 27 (.int .i64 0) := by rw [← hw3]; exact hr0.other (by omega) _
    have hx3 : w3.heap[Bx]? = some (Obj.cells (ndC x) 107) := by rw [← hw3]; exact ws_set hx (by omega) _
    have hk3 : Kp w.heap.size W' w3 := by rw [← hw3]; exact kp_set hc (by unfold WalkTy; decide) (by omega) _
    have hf3 : KeepsFrom w2.heap.size W' w3 := by rw [← hw3]; exact (KeepsOthers.setCell _ _ _).from _
    have hB3 : Below w.heap.size w w3 := hB.trans hk3.below
    have hcc := hc.cell
    have hcf := hc.frozen
    have hc3c := hc3.cell
    have hr3c := hr3.cell
    have hr3f := hr3.frozen
    have e0 := cells_at hx3 0 _ rfl
    have e1 := cells_at hx3 1 _ rfl
    have e2 := cells_at hx3 2 _ rfl
    have e3 := cells_at hx3 3 _ rfl
    have e4 := cells_at hx3 4 _ rfl
    have e5 := cells_at hx3 5 _ rfl
    have e6 := cells_at hx3 6 _ rfl
    have e7 := cells_at hx3 7 _ rfl
    have WC : Hid (Calls Tryz.prog 56 #[.agg #[.int .i64 x.dp, .bool x.isT, .int .i64 x.op, .int .i64 x.top, .string x.name, .int .i64 x.num, .int .i64 (x.terms : Nat), .int .i64 (x.args : Nat)]] w3 fun e w' => e = .returned (.bool (wellN nmB x)) ∧ Below w3.heap.size w3 w' ∧ Boxed w' w.heap.size 27 (.int .i64 0)) :=
      (wellN_at x w3 hz).mono (fun e w' h => ⟨h.1, h.2, box_keep hr3 h.2⟩)
    by_cases h1 : 500 < pre.length + 1
    · have HE : Hid ((run0 nmB (vals (pre ++ [⟨x, hz⟩]))).e = 73) := by show _ = _; rw [HV.out]; exact run_many HR.out (by rw [HL.out]; exact h1)
      have h1' : (500 : Int) < (pre.length : Int) + 1 := by omega
      gi_wp2
      exact ⟨hf3.trans ((KeepsOthers.setCell _ _ _).from _), rfl, by rw [HE.out]; exact hr3.set _, by rw [HE.out]; decide, hB3.setCell (p := ⟨w.heap.size, 0, none⟩) (Nat.le_refl _) _⟩
    · have h1' : (pre.length : Int) + 1 ≤ 500 := by omega
      by_cases h2 : 40 < x.dp
      · have HE : Hid ((run0 nmB (vals (pre ++ [⟨x, hz⟩]))).e = 72) := by show _ = _; rw [HV.out]; exact run_deep HR.out (by rw [HL.out]; exact h1) h2
        gi_wp2
        exact ⟨hf3.trans ((KeepsOthers.setCell _ _ _).from _), rfl, by rw [HE.out]; exact hr3.set _, by rw [HE.out]; decide, hB3.setCell (p := ⟨w.heap.size, 0, none⟩) (Nat.le_refl _) _⟩
      · have h2' : x.dp ≤ 40 := by omega
        cases h3 : wellN nmB x with
        | false =>
          have HE : Hid ((run0 nmB (vals (pre ++ [⟨x, hz⟩]))).e = 3) := by show _ = _; rw [HV.out]; exact run_bad HR.out (by rw [HL.out]; exact h1) h2 h3
          rw [h3] at WC
          gi_wp2
          refine ⟨trivial, ?_⟩
          refine (CallsIn.inRound l (callsIn_wide.2 WC.out)).mono ?_
          rintro e w4 ⟨rfl, hB4, hr4⟩
          have hr4c := hr4.cell
          have hr4f := hr4.frozen
          gi_wp2
          exact ⟨hf3.trans ((keeps_of hB4).trans ((KeepsOthers.setCell _ _ _).from _)), rfl, by rw [HE.out]; exact hr4.set _, by rw [HE.out]; decide, (hB3.trans (hB4.mono hB3.size)).setCell (p := ⟨w.heap.size, 0, none⟩) (Nat.le_refl _) _⟩
        | true =>
          have HE : Hid ((run0 nmB (vals (pre ++ [⟨x, hz⟩]))).e = 0) := by show _ = _; rw [HV.out]; exact run_ok HR.out (by rw [HL.out]; exact h1) h2 h3
          rw [h3] at WC
          gi_wp2
          refine ⟨trivial, ?_⟩
          refine (CallsIn.inRound l (callsIn_wide.2 WC.out)).mono ?_
          rintro e w4 ⟨rfl, hB4, hr4⟩
          gi_wp2
          exact ⟨hf3.trans (keeps_of hB4), hk3.trans (Kp.of hB4 hB3.size), by have := box_keep hc3 hB4; simpa using this, hr4, HE.out, hB3.trans (hB4.mono hB3.size)⟩
  case done =>
    rintro D ys W' hD hS ⟨hc, hr0, hrun, hB⟩ hK
    have hrc := hr0.cell
    have hrf := hr0.frozen
    have HE : Hid (chk nmB f = 0) := by
      show _ = _
      rw [chk_run, ← show vals ys = ndF f 1 from hS]
      exact hrun
    clear hrun hS
    gi_wp2
    have hK' := def_set hK rfl ⟨w.heap.size, 0, none⟩ (.int .i64 0)
    refine ⟨by simp, .inl ⟨_, _, rfl, run_takeDeferred hK', ?_⟩⟩
    have hc5 := (box_put (hr0.set (.int .i64 0)) hK').cell
    refine ⟨.int .i64 0, ?_, by rw [HE.out]; rfl, below_put (hB.setCell (p := ⟨w.heap.size, 0, none⟩) (Nat.le_refl _) _) (by omega)⟩
    simp [results, Tryz.results33, go_sem, hc5]
  case stop =>
    rintro D c ys W' hD hS ⟨rfl, hr0, hrun, hB⟩ hK
    have HE : Hid (chk nmB f = (run0 nmB (vals ys)).e) := by
      show _ = _
      rw [chk_run, run_pre (show vals ys <+: ndF f 1 from hS) hrun]
    clear hrun hS
    gi_wp2
    refine ⟨by simp, .inl ⟨_, _, rfl, run_takeDeferred hK, ?_⟩⟩
    have hc5 := (box_put hr0 hK).cell
    refine ⟨_, ?_, by rw [HE.out], below_put hB (by omega)⟩
    simp [results, Tryz.results33, go_sem, hc5]
/-- tree.Check -/
theorem check_run (W : World) (f : Fm) (v : Value) (w : World) (hv : FmV W f v) (hW : Below W.heap.size W w) :
    Calls Tryz.prog 16 #[v] w fun e w' => e = .returned (.int .i64 (chk nmB f : Nat)) ∧ Below w.heap.size w w' := by
  obtain ⟨c0, c1, c2, c3, c4, rfl, hr⟩ := hv
  have hr' := hr
  obtain ⟨o, x, m, t, a⟩ := f
  rw [RdF] at hr
  obtain ⟨rfl, rfl, rfl, hbd, ⟨bo, ct, rfl, -⟩, ao, ca, rfl, -⟩ := hr
  obtain ⟨b, hb⟩ : ∃ b, Obj.cells #[.int .i64 o, .string x, .int .i64 m, .slice bo t.length ct, .slice ao a.length ca] 26 = b := ⟨_, rfl⟩
  have hB : Below w.heap.size w ((w.alloc b).alloc b) := ((Below.refl _ _).alloc (Nat.le_refl _) _).alloc (by simp) _
  have RC : Hid (Calls Tryz.prog 33 #[.func (.func 57) #[] #[.pointer (some ⟨w.heap.size + 1, 0, none⟩)]] ((w.alloc b).alloc b) fun e w' => e = .returned (.int .i64 (chk nmB (.mk o x m t a) : Nat)) ∧ Below w.heap.size w w') := by
    refine (check_at W (.mk o x m t a) (w.heap.size + 1) _ (hW.trans (hB.mono hW.size)) ⟨_, _, _, _, _, ?_, hr'⟩).mono (fun e w' h => ⟨h.1, hB.trans (h.2.mono hB.size)⟩)
    rw [hb]
    have := World.alloc_heap_new (w.alloc b) b
    rwa [World.size_alloc] at this
  subst hb
  clear hr' hB
  generalize chk nmB (.mk o x m t a) = r at *
  go_enter Tryz.func16, Tryz.ntmps16
  go_wp2_with (first
    | (go_at_call 34; refine (nodes_at _ _ _ _ _ _ _ _ _ _).mono ?_; rintro e w2 ⟨rfl, rfl⟩)
    | (go_at_call 33; refine RC.out.mono ?_; rintro e w3 ⟨rfl, hB3⟩))
  go_ret
  exact ⟨rfl, hB3⟩
end Go.Proofs.YtabfhdmcljdjhaaGreatDoor.Gl
/- What is read of words is read of other words that agree, as far as it goes: plain mathematics. -/
namespace Go.Proofs.YtabfhdmcljdjhaaGreatDoor.Gl
set_option linter.unusedVariables false
set_option linter.unusedSimpArgs false

/-- words vs from d on are those of ws up to e; at e nothing more stands in vs than in ws (but a shutting bracket, if b is false) -/
structure Ag (ws vs : List Wd) (d e : Nat) (b c : Prop) : Prop where
  full : ∀ i, i < e → (∀ x, IsS ws i x ↔ IsS vs (d + i) x) ∧ (∀ x, IsN ws i x ↔ IsN vs (d + i) x) ∧ ∀ n, IsD ws i n ↔ IsD vs (d + i) n
  neg : ∀ x, (x = kShut → b) → IsS vs (d + e) x → IsS ws e x
  negN : ∀ x, IsN vs (d + e) x → IsN ws e x
  negD : ∀ n, IsD vs (d + e) n → IsD ws e n
  posD : c → ∀ n, IsD ws e n → IsD vs (d + e) n
def Out.fin {α : Type} : Out α → Nat
  | .ok _ q => q
  | .bad _ q => q
def Out.isBad {α : Type} : Out α → Prop
  | .ok _ _ => False
  | .bad _ _ => True
def Out.isMod {α : Type} : Out α → Prop
  | .bad e _ => e = 92
  | .ok _ _ => False
def Out.sh {α : Type} (d : Nat) : Out α → Out α
  | .ok a q => .ok a (d + q)
  | .bad e q => .bad e (d + q)
abbrev AgO {α : Type} (ws vs : List Wd) (d : Nat) (r : Out α) : Prop := Ag ws vs d r.fin r.isBad r.isMod
theorem Ag.sub {ws vs : List Wd} {d e e1 : Nat} {b c : Prop} (h : Ag ws vs d e b c) (he : e1 ≤ e) : Ag ws vs d e1 False False := by
  by_cases hlt : e1 < e
  · have f := h.full e1 hlt
    exact ⟨fun i hi => h.full i (by omega), fun x _ k => (f.1 x).2 k, fun x k => (f.2.1 x).2 k, fun n k => (f.2.2 n).2 k, fun k => k.elim⟩
  · obtain rfl : e1 = e := by omega
    exact ⟨h.full, fun x hx k => h.neg x (fun hh => (hx hh).elim) k, h.negN, h.negD, fun k => k.elim⟩
theorem Ag.s {ws vs : List Wd} {d e : Nat} {b c : Prop} (h : Ag ws vs d e b c) {i : Nat} (hi : i < e) {x : ByteArray} (k : IsS ws i x) : IsS vs (d + i) x := ((h.full i hi).1 x).1 k
theorem Ag.n {ws vs : List Wd} {d e : Nat} {b c : Prop} (h : Ag ws vs d e b c) {i : Nat} (hi : i < e) {x : ByteArray} (k : IsN ws i x) : IsN vs (d + i) x := ((h.full i hi).2.1 x).1 k
theorem Ag.d {ws vs : List Wd} {d e : Nat} {b c : Prop} (h : Ag ws vs d e b c) {i : Nat} (hi : i < e) {x : Nat} (k : IsD ws i x) : IsD vs (d + i) x := ((h.full i hi).2.2 x).1 k
theorem Ag.ns {ws vs : List Wd} {d e : Nat} {b c : Prop} (h : Ag ws vs d e b c) {i : Nat} (hi : i ≤ e) {x : ByteArray} (hx : x ≠ kShut) (k : ¬ IsS ws i x) : ¬ IsS vs (d + i) x :=
  fun z => k ((h.sub hi).neg x (fun e => (hx e).elim) z)
theorem Ag.nn {ws vs : List Wd} {d e : Nat} {b c : Prop} (h : Ag ws vs d e b c) {i : Nat} (hi : i ≤ e) (k : ∀ x, ¬ IsN ws i x) : ∀ x, ¬ IsN vs (d + i) x :=
  fun x z => k x ((h.sub hi).negN x z)
theorem Ag.nd {ws vs : List Wd} {d e : Nat} {b c : Prop} (h : Ag ws vs d e b c) {i : Nat} (hi : i ≤ e) (k : ∀ x, ¬ IsD ws i x) : ∀ x, ¬ IsD vs (d + i) x :=
  fun x z => k x ((h.sub hi).negD x z)
theorem PT.ag {ws : List Wd} {k : QT} {p : Nat} {r : Out Tm} (h : PT ws k p r) : ∀ {vs d}, AgO ws vs d r → PT vs k (d + p) (r.sh d) := by
  induction h with
  | sqBad a h i => intro vs d A; have := h.far; simp only [Out.far, QT.more] at this; exact .sqBad (A.s (by simp only [Out.fin]; omega) a) (i A)
  | sqNo a h b i => intro vs d A; have := h.far; simp only [Out.far, QT.more] at this; exact .sqNo (A.s (by simp only [Out.fin]; omega) a) (i (A.sub (Nat.le_refl _))) (A.ns (Nat.le_refl _) (by decide) b)
  | sq a h b i => intro vs d A; have := h.far; simp only [Out.far, QT.more] at this; exact .sq (A.s (by simp only [Out.fin]; omega) a) (i (A.sub (by simp only [Out.fin]; omega))) (A.s (by simp only [Out.fin]; omega) b)
  | negBad a h i => intro vs d A; have := h.far; simp only [Out.far, QT.more] at this; exact .negBad (A.s (by simp only [Out.fin]; omega) a) (i A)
  | neg a h i => intro vs d A; have := h.far; simp only [Out.far, QT.more] at this; exact .neg (A.s (by simp only [Out.fin]; omega) a) (i A)
  | name a => intro vs d A; exact .name (A.n (by simp only [Out.fin]; omega) a)
  | num a => intro vs d A; exact .num (A.d (by simp only [Out.fin]; omega) a)
  | none a b c e => intro vs d A; exact .none (A.ns (Nat.le_refl _) (by decide) a) (A.ns (Nat.le_refl _) (by decide) b) (A.nn (Nat.le_refl _) c) (A.nd (Nat.le_refl _) e)
  | prodBad h i => intro vs d A; exact .prodBad (i A)
  | @prod p x q r h h' i j =>
    intro vs d A
    have hq : q ≤ r.fin := by have := h'.far; cases r <;> simp only [Out.far, QT.more, Out.fin] at * <;> omega
    exact .prod (i (A.sub hq)) (j A)
  | prodStop a => intro vs d A; exact .prodStop (A.ns (Nat.le_refl _) (by decide) a)
  | prodLBad a h i => intro vs d A; have := h.far; simp only [Out.far, QT.more] at this; exact .prodLBad (A.s (by simp only [Out.fin]; omega) a) (i A)
  | @prodL p x y q r a h h' i j =>
    intro vs d A
    have hp := h.far
    have hq : q ≤ r.fin := by have := h'.far; cases r <;> simp only [Out.far, QT.more, Out.fin] at * <;> omega
    simp only [Out.far, QT.more] at hp
    exact .prodL (A.s (by omega) a) (i (A.sub hq)) (j A)
  | sumBad h i => intro vs d A; exact .sumBad (i A)
  | @sum p x q r h h' i j =>
    intro vs d A
    have hq : q ≤ r.fin := by have := h'.far; cases r <;> simp only [Out.far, QT.more, Out.fin] at * <;> omega
    exact .sum (i (A.sub hq)) (j A)
  | sumStop a b => intro vs d A; exact .sumStop (A.ns (Nat.le_refl _) (by decide) a) (A.ns (Nat.le_refl _) (by decide) b)
  | addBad a h i => intro vs d A; have := h.far; simp only [Out.far, QT.more] at this; exact .addBad (A.s (by simp only [Out.fin]; omega) a) (i A)
  | @add p x y q r a h h' i j =>
    intro vs d A
    have hp := h.far
    have hq : q ≤ r.fin := by have := h'.far; cases r <;> simp only [Out.far, QT.more, Out.fin] at * <;> omega
    simp only [Out.far, QT.more] at hp
    exact .add (A.s (by omega) a) (i (A.sub hq)) (j A)
  | subBad a h i => intro vs d A; have := h.far; simp only [Out.far, QT.more] at this; exact .subBad (A.s (by simp only [Out.fin]; omega) a) (i A)
  | @sub p x y q r a h h' i j =>
    intro vs d A
    have hp := h.far
    have hq : q ≤ r.fin := by have := h'.far; cases r <;> simp only [Out.far, QT.more, Out.fin] at * <;> omega
    simp only [Out.far, QT.more] at hp
    exact .sub (A.s (by omega) a) (i (A.sub hq)) (j A)
theorem PN.ag {ws : List Wd} {p : Nat} {r : Out (List ByteArray)} (h : PN ws p r) : ∀ {vs d}, AgO ws vs d r → PN vs (d + p) (r.sh d) := by
  induction h with
  | none a => intro vs d A; exact .none (A.nn (Nat.le_refl _) a)
  | last a b => intro vs d A; exact .last (A.n (by simp only [Out.fin]; omega) a) (A.ns (Nat.le_refl _) (by decide) b)
  | bad a b h i => intro vs d A; have := h.far; simp only [Out.far] at this; exact .bad (A.n (by simp only [Out.fin]; omega) a) (A.s (by simp only [Out.fin]; omega) b) (i A)
  | more a b h i => intro vs d A; have := h.far; simp only [Out.far] at this; exact .more (A.n (by simp only [Out.fin]; omega) a) (A.s (by simp only [Out.fin]; omega) b) (i A)
theorem rels_not {x : ByteArray} (h : x ∈ rels) : x ≠ kShut := by
  simp only [List.mem_cons, List.not_mem_nil, or_false] at h
  rcases h with e | e | e | e | e | e | e <;> (subst e; decide)
theorem PT.sub71 {ws : List Wd} {k : QT} {p : Nat} {r : Out Tm} (h : PT ws k p r) : ∀ e q, r = .bad e q → e = 71 := by
  induction h with
  | sqNo _ _ _ _ => intro e q h; cases h; rfl
  | none _ _ _ _ => intro e q h; cases h; rfl
  | prod _ _ _ j => exact j
  | prodL _ _ _ _ j => exact j
  | sum _ _ _ j => exact j
  | add _ _ _ _ j => exact j
  | sub _ _ _ _ j => exact j
  | _ => first | assumption | (intro e q h; cases h)
theorem PA.ag {ws : List Wd} {p : Nat} {r : Out Fm} (h : PA ws p r) : ∀ {vs d}, AgO ws vs d r → PA vs (d + p) (r.sh d) := by
  intro vs d A
  cases h with
  | bad1 a => exact .bad1 (a.ag ⟨A.full, A.neg, A.negN, A.negD, A.posD⟩)
  | none a b => exact .none (a.ag (A.sub (Nat.le_refl _))) (fun x hx => A.ns (Nat.le_refl _) (rels_not hx) (b x hx))
  | bad2 a hx s b => have := b.far; simp only [Out.far, QT.more] at this; exact .bad2 (a.ag (A.sub (by simp only [Out.fin]; omega))) hx (A.s (by simp only [Out.fin]; omega) s) (b.ag ⟨A.full, A.neg, A.negN, A.negD, A.posD⟩)
  | rel a hi s b => have := b.far; simp only [Out.far, QT.more] at this; exact .rel (a.ag (A.sub (by simp only [Out.fin]; omega))) hi (A.s (by simp only [Out.fin]; omega) s) (b.ag (A.sub (Nat.le_refl _)))
  | noMod a s b t => have := b.far; simp only [Out.far, QT.more] at this; exact .noMod (a.ag (A.sub (by simp only [Out.fin]; omega))) (A.s (by simp only [Out.fin]; omega) s) (b.ag (A.sub (Nat.le_refl _))) (A.ns (Nat.le_refl _) (by decide) t)
  | noNum a s b t u => have := b.far; simp only [Out.far, QT.more] at this; exact .noNum (a.ag (A.sub (by simp only [Out.fin]; omega))) (A.s (by simp only [Out.fin]; omega) s) (b.ag (A.sub (by simp only [Out.fin]; omega))) (A.s (by simp only [Out.fin]; omega) t) (A.nd (Nat.le_refl _) u)
  | zero a s b t u => have := b.far; simp only [Out.far, QT.more] at this; exact .zero (a.ag (A.sub (by simp only [Out.fin]; omega))) (A.s (by simp only [Out.fin]; omega) s) (b.ag (A.sub (by simp only [Out.fin]; omega))) (A.s (by simp only [Out.fin]; omega) t) (A.posD rfl _ u)
  | cong a s b t u hn => have := b.far; simp only [Out.far, QT.more] at this; exact .cong (a.ag (A.sub (by simp only [Out.fin]; omega))) (A.s (by simp only [Out.fin]; omega) s) (b.ag (A.sub (by simp only [Out.fin]; omega))) (A.s (by simp only [Out.fin]; omega) t) (A.d (by simp only [Out.fin]; omega) u) hn
theorem un_not {x : ByteArray} (h : x ∈ [kNot, kEx, kAll, kOpen, kTrue, kFalse]) : x ≠ kShut := by
  simp only [List.mem_cons, List.not_mem_nil, or_false] at h
  rcases h with e | e | e | e | e | e <;> (subst e; decide)
theorem sg_not (n : Nat) : sgOf n ≠ kShut := by
  unfold sgOf
  split <;> decide
theorem PF.ag {ws : List Wd} {k : QF} {p : Nat} {r : Out Rs} (h : PF ws k p r) : ∀ {vs d}, AgO ws vs d r → PF vs k (d + p) (r.sh d) := by
  induction h with
  | un h i => intro vs d A; exact .un (i A)
  | levBad hn h i => intro vs d A; exact .levBad hn (i A)
  | levTail hn h h' i j => intro vs d A; have := h'.far; simp only [Out.far, QF.more] at this; exact .levTail hn (i (A.sub (by simp only [Out.fin]; omega))) (j A)
  | lev hn h h' i j => intro vs d A; have := h'.far; simp only [Out.far, QF.more] at this; exact .lev hn (i (A.sub (by simp only [Out.fin]; omega))) (j (A.sub (Nat.le_refl _)))
  | stop hn a => intro vs d A; exact .stop hn (A.ns (Nat.le_refl _) (sg_not _) a)
  | tailBad hn a h i => intro vs d A; have := h.far; simp only [Out.far, QF.more] at this; exact .tailBad hn (A.s (by simp only [Out.fin]; omega) a) (i A)
  | tailTail hn a h h' i j => intro vs d A; have := h.far; have := h'.far; simp only [Out.far, QF.more] at *; exact .tailTail hn (A.s (by simp only [Out.fin]; omega) a) (i (A.sub (by simp only [Out.fin]; omega))) (j A)
  | tail hn a h h' i j => intro vs d A; have := h.far; have := h'.far; simp only [Out.far, QF.more] at *; exact .tail hn (A.s (by simp only [Out.fin]; omega) a) (i (A.sub (by simp only [Out.fin]; omega))) (j (A.sub (Nat.le_refl _)))
  | notBad a h i => intro vs d A; have := h.far; simp only [Out.far, QF.more] at this; exact .notBad (A.s (by simp only [Out.fin]; omega) a) (i A)
  | not a h i => intro vs d A; have := h.far; simp only [Out.far, QF.more] at this; exact .not (A.s (by simp only [Out.fin]; omega) a) (i (A.sub (Nat.le_refl _)))
  | quNames hx a h => intro vs d A; have := h.far; simp only [Out.far] at this; exact .quNames hx (A.s (by simp only [Out.fin]; omega) a) (h.ag ⟨A.full, A.neg, A.negN, A.negD, A.posD⟩)
  | quDot hx a h b => intro vs d A; have := h.far; simp only [Out.far] at this; exact .quDot hx (A.s (by simp only [Out.fin]; omega) a) (h.ag (A.sub (Nat.le_refl _))) (A.ns (Nat.le_refl _) (by decide) b)
  | quBad hx a h b h' i => intro vs d A; have := h.far; have := h'.far; simp only [Out.far, QF.more] at *; exact .quBad hx (A.s (by simp only [Out.fin]; omega) a) (h.ag (A.sub (by simp only [Out.fin]; omega))) (A.s (by simp only [Out.fin]; omega) b) (i A)
  | qu hx a h b h' i => intro vs d A; have := h.far; have := h'.far; simp only [Out.far, QF.more] at *; exact .qu hx (A.s (by simp only [Out.fin]; omega) a) (h.ag (A.sub (by simp only [Out.fin]; omega))) (A.s (by simp only [Out.fin]; omega) b) (i (A.sub (Nat.le_refl _)))
  | brBad a h i => intro vs d A; have := h.far; simp only [Out.far, QF.more] at this; exact .brBad (A.s (by simp only [Out.fin]; omega) a) (i A)
  | brNo a h b i => intro vs d A; have := h.far; simp only [Out.far, QF.more] at this; exact .brNo (A.s (by simp only [Out.fin]; omega) a) (i (A.sub (Nat.le_refl _))) (fun z => b (A.neg _ (fun _ => trivial) z))
  | br a h b i => intro vs d A; have := h.far; simp only [Out.far, QF.more] at this; exact .br (A.s (by simp only [Out.fin]; omega) a) (i (A.sub (by simp only [Out.fin]; omega))) (A.s (by simp only [Out.fin]; omega) b)
  | tru a => intro vs d A; exact .tru (A.s (by simp only [Out.fin]; omega) a)
  | fls a => intro vs d A; exact .fls (A.s (by simp only [Out.fin]; omega) a)
  | atomBad hno h => intro vs d A; have := h.far; simp only [Out.far] at this; exact .atomBad (fun x hx => A.ns (by simp only [Out.fin]; omega) (un_not hx) (hno x hx)) (h.ag ⟨A.full, A.neg, A.negN, A.negD, A.posD⟩)
  | atom hno h => intro vs d A; have := h.far; simp only [Out.far] at this; exact .atom (fun x hx => A.ns (by simp only [Out.fin]; omega) (un_not hx) (hno x hx)) (h.ag (A.sub (Nat.le_refl _)))
end Go.Proofs.YtabfhdmcljdjhaaGreatDoor.Gl
