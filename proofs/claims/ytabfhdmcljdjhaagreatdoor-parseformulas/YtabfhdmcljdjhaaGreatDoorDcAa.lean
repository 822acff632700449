/- The document's reader: formulas whole. -/
import Derived.Test.YtabfhdmcljdjhaaGreatDoorDcZ
import Derived.Test.YtabfhdmcljdjhaaGreatDoorDcY
namespace Go.Proofs.YtabfhdmcljdjhaaGreatDoor.Gl
open Go.RowKit
set_option linter.unusedVariables false
set_option linter.unusedSimpArgs false

set_option maxRecDepth 100000 in
set_option maxHeartbeats 4000000 in
theorem dlev_four {X : Rx} {N : Nat} (U : DUn X N) : DLev 4 X N := by
  intro w P r h hP hr
  show Calls Tryz.prog 18 #[.pointer (some ⟨X.b, 0, none⟩), .int .i64 4] w (DFm X w r)
  have hr' := gf_four hr
  have hbw := h.lt
  have hWw := h.below.size
  have hR1 := rb_new w zF 26
  have h1 := h.alloc (.cells zF 26)
  have hU1 : Bux X.b w (w.alloc (.cells zF 26)) := Bux.of (bal w _)
  have SC := mkHid (fun w5 (h5 : Ds X w5 P) => U w5 P r h5 hP hr')
  clear hr hr' U
  go_enter Tryz.func18, Tryz.ntmps18
  go_wp2_with (fail)
  refine (SC.out _ h1).mono ?_
  rintro e w5 ⟨o, xs, m, bo, n1, c1, ao, n, c, f, rfl, hV5, h5, hC5, hf⟩
  have hs4 := (Array.getElem?_eq_some_iff.1 hR1).1
  have hR6 := hR1.but hC5 (by omega)
  have hU6 := hU1.trans hC5
  have hV6 : RdFn (fun k => w.heap.size < k) w5 f (.int .i64 o) (.string xs) (.int .i64 m) (.slice bo n1 c1) (.slice ao n c) := RdFn.low (fun k _ (hg : _ ≤ k) => by omega) _ _ _ _ _ _ hV5
  obtain ⟨r0, g0⟩ := txcell hR6 0 _ rfl
  obtain ⟨r1, g1⟩ := txcell hR6 1 _ rfl
  obtain ⟨r2, g2⟩ := txcell hR6 2 _ rfl
  obtain ⟨r3, g3⟩ := txcell hR6 3 _ rfl
  obtain ⟨r4, g4⟩ := txcell hR6 4 _ rfl
  have hRy := rb_five hR6 rfl (.int .i64 o) (.string xs) (.int .i64 m) (.slice bo n1 c1) (.slice ao n c)
  obtain ⟨k0, -⟩ := txcell hRy 0 _ rfl
  obtain ⟨k1, -⟩ := txcell hRy 1 _ rfl
  obtain ⟨k2, -⟩ := txcell hRy 2 _ rfl
  obtain ⟨k3, -⟩ := txcell hRy 3 _ rfl
  obtain ⟨k4, -⟩ := txcell hRy 4 _ rfl
  go_wp2
  exact bodyPost_ret (v := .agg #[.int .i64 o, .string xs, .int .i64 m, .slice bo n1 c1, .slice ao n c]) (by simp [results, Tryz.results18, go_sem, k0, k1, k2, k3, k4]) rfl ⟨o, xs, m, bo, n1, c1, ao, n, c, f, rfl, RdFn.low (fun k _ (hk : w.heap.size < k) => Nat.le_of_lt hk) _ _ _ _ _ _ (RdFn.keep (Hi.st5 (fun k (hk : w.heap.size < k) => by omega) w5 (.int .i64 o) (.string xs) (.int .i64 m) (.slice bo n1 c1) (.slice ao n c)) _ _ _ _ _ _ hV6), h5.st5 (by omega) hWw (.int .i64 o) (.string xs) (.int .i64 m) (.slice bo n1 c1) (.slice ao n c), hU6.st5 (Nat.le_refl _) (.int .i64 o) (.string xs) (.int .i64 m) (.slice bo n1 c1) (.slice ao n c), hf⟩
/-- formulas, from every place on -/
theorem dformulas_all {X : Rx} (hW : WdOk X.ws) : ∀ m N, X.ws.length + 1 ≤ N + m → DUn X N ∧ DLev 0 X N := by
  have key : ∀ N, (N < X.ws.length → DUn X (N + 1) ∧ DLev 0 X (N + 1)) → DUn X N ∧ DLev 0 X N := by
    intro N I
    have S : DSum X N := (dterms_all hW (X.ws.length + 1) N (by omega)).2.2
    have Q : ∀ q : Int, I64 q → DQu q X N := fun q hq => by
      by_cases hN : N < X.ws.length
      · exact dqu_step hq hW (I hN).1
      · intro w p r h hlt hP hr
        exact absurd hlt (by omega)
    have U : DUn X N := dun_step (datom_step hW S) (Q 7 (by decide)) (Q 8 (by decide)) I
    exact ⟨U, dlev_step (n := 0) (by omega) (dlev_step (n := 1) (by omega) (dlev_step (n := 2) (by omega) (dlev_step (n := 3) (by omega) (dlev_four U))))⟩
  intro m
  induction m with
  | zero => intro N hN; exact key N fun h => absurd h (by omega)
  | succ m ih => intro N hN; exact key N fun _ => ih (N + 1) (by omega)
theorem dlev_all (X : Rx) (hW : WdOk X.ws) : DLev 0 X 0 := (dformulas_all hW (X.ws.length + 1) 0 (by omega)).2
end Go.Proofs.YtabfhdmcljdjhaaGreatDoor.Gl
