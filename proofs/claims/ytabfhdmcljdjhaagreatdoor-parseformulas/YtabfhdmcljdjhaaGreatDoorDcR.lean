/- The document's reader: between. -/
import Derived.Test.YtabfhdmcljdjhaaGreatDoorDcI
import Derived.Test.YtabfhdmcljdjhaaGreatDoorPcO
namespace Go.Proofs.YtabfhdmcljdjhaaGreatDoor.Gl
open Go.RowKit
set_option linter.unusedVariables false
set_option linter.unusedSimpArgs false

set_option maxHeartbeats 4000000 in
theorem dbetween_at {X : Rx} {w : World} {P : Pos} (h : Ds X w P) (o : Int) (ho : ∀ i : Nat, i < 7 → P.stands X.ws (rels.getD i emp) → o = 9 + (i : Nat)) (hn : (∀ i : Nat, i < 7 → ¬ P.stands X.ws (rels.getD i emp)) → o = -1) :
    Calls Tryz.prog 93 #[.pointer (some ⟨X.b, 0, none⟩)] w fun e w' => e = .returned (.int .i64 o) ∧ Ds X w' P ∧ Below w.heap.size w w' := by
  have hR : RdS (w.alloc (.cells #[.string ⟨#[60, 61]⟩, .string ⟨#[60]⟩, .string ⟨#[62, 61]⟩, .string ⟨#[62]⟩, .string ⟨#[61]⟩, .string ⟨#[33, 61]⟩, .string ⟨#[126]⟩] 9)) (some ⟨w.heap.size, 0, none⟩) 7 7 rels := rds_built w rels 7 9 w.heap.size rfl rfl (by omega)
  have hB : Below w.heap.size w (w.alloc (.cells #[.string ⟨#[60, 61]⟩, .string ⟨#[60]⟩, .string ⟨#[62, 61]⟩, .string ⟨#[62]⟩, .string ⟨#[61]⟩, .string ⟨#[33, 61]⟩, .string ⟨#[126]⟩] 9)) := bal w _
  have HR : Hid _ := hR
  have HO := mkHid ho
  have HN := mkHid hn
  have h0 := h.keep hB
  clear hR ho hn
  go_enter Tryz.func93, Tryz.ntmps93
  go_wp2
  generalize hw0 : w.alloc (.cells #[.string ⟨#[60, 61]⟩, .string ⟨#[60]⟩, .string ⟨#[62, 61]⟩, .string ⟨#[62]⟩, .string ⟨#[61]⟩, .string ⟨#[33, 61]⟩, .string ⟨#[126]⟩] 9) = w0 at *
  have hgl : w.heap.size < w0.heap.size := by rw [← hw0]; simp
  go_loopw [4] (fun i wr => ∃ k : Nat, k ≤ 7 ∧ i = .int .i64 (k : Nat) ∧ Hid (∀ j : Nat, j < k → ¬ P.stands X.ws (rels.getD j emp)) ∧ Below w0.heap.size w0 wr ∧ Ds X wr P) (fun i _ => 7 - (intOf i).toNat)
  case atStart => exact ⟨0, Nat.zero_le _, rfl, fun j hj => absurd hj (by omega), Below.refl _ _, h0⟩
  case round =>
    obtain ⟨k, hk, rfl, HK, hBr, hS⟩ := hrel
    by_cases hlt : k < 7
    · obtain ⟨g, off, e, hc0⟩ := HR.out.cell k hlt
      obtain ⟨rfl, rfl⟩ : w.heap.size = g ∧ 0 = off := by simpa using e
      rw [Nat.zero_add] at hc0
      have hc : wr.cell? ⟨w.heap.size, k, none⟩ = some (.string (rels.getD k emp)) := (hBr.cell (p := ⟨w.heap.size, k, none⟩) hgl).trans hc0
      clear hc0 e
      by_cases hs : P.stands X.ws (rels.getD k emp)
      · have HE : Hid (o = 9 + (k : Int)) := HO.out k hlt hs
        cases P with
        | bad y q => exact hs.elim
        | «at» p =>
          have IC := mkHid (dis_yes hS hs)
          generalize rels.getD k emp = x at *
          clear HO HN HK HR
          go_wp2_with (fail)
          refine (IC.out).mono ?_
          rintro e w2 ⟨rfl, hB2⟩
          have h2 := hS.keep hB2
          go_wp2
          go_ret
          exact ⟨ret1 HE.out.symm, h2, bt2 (hB.trans (hBr.mono (Nat.le_of_lt hgl))) hB2⟩
      · have HK2 : Hid (∀ j : Nat, j < k + 1 → ¬ P.stands X.ws (rels.getD j emp)) := fun j hj => by
          rcases Nat.lt_succ_iff_lt_or_eq.1 hj with hj | rfl
          · exact HK.out j hj
          · exact hs
        have IC := mkHid (dis_no hS hs)
        generalize rels.getD k emp = x at IC hc
        clear HO HN HK HR hs
        go_wp2_with (fail)
        refine (IC.out).mono ?_
        rintro e w2 ⟨rfl, hB2⟩
        have h2 := hS.keep hB2
        go_wp2
        go_roundw
        case rel => exact ⟨k + 1, by omega, by go_num, HK2, bt2 hBr hB2, h2⟩
        case measure => simp [intOf]; omega
    · obtain rfl : k = 7 := by omega
      have HE : Hid (o = -1) := HN.out (fun i hi => HK.out i hi)
      clear HO HN HK HR
      go_wp2
      go_ret
      exact ⟨ret1 HE.out.symm, hS, hB.trans (hBr.mono (Nat.le_of_lt hgl))⟩
end Go.Proofs.YtabfhdmcljdjhaaGreatDoor.Gl
/- The document's reader: what a formula's parts answer; pair, joint; unary. -/
namespace Go.Proofs.YtabfhdmcljdjhaaGreatDoor.Gl
open Go.RowKit
set_option linter.unusedVariables false
set_option linter.unusedSimpArgs false

theorem Ds.st5 {X : Rx} {w : World} {P : Pos} (h : Ds X w P) {B : Nat} (hne : X.b ≠ B) (hB : X.W.heap.size ≤ B) (v0 v1 v2 v3 v4 : Value) : Ds X (st5 w B v0 v1 v2 v3 v4) P := (h.st4 hne hB v0 v1 v2 v3).other hne hB 4 v4
/-- what a part of a formula answers -/
def DFm (X : Rx) (w : World) (r : Out Fm) (e : Ending) (w' : World) : Prop :=
  ∃ o xs m bo n1 c1 ao n c t, e = .returned (.agg #[.int .i64 o, .string xs, .int .i64 m, .slice bo n1 c1, .slice ao n c]) ∧ RdFn (Ge w.heap.size) w' t (.int .i64 o) (.string xs) (.int .i64 m) (.slice bo n1 c1) (.slice ao n c) ∧ Ds X w' r.pos ∧ Bux X.b w w' ∧ r.is t
def DUn (X : Rx) (N : Nat) : Prop := ∀ w P r, Ds X w P → P.from N → GF X.ws .un P r → Calls Tryz.prog 38 #[.pointer (some ⟨X.b, 0, none⟩)] w (DFm X w r)
def DLev (k : Nat) (X : Rx) (N : Nat) : Prop := ∀ w P r, Ds X w P → P.from N → GF X.ws (.lev k) P r → Calls Tryz.prog 18 #[.pointer (some ⟨X.b, 0, none⟩), .int .i64 (k : Nat)] w (DFm X w r)
def DAtm (X : Rx) (N : Nat) : Prop := ∀ w P r, Ds X w P → P.from N → GA X.ws P r → Calls Tryz.prog 70 #[.pointer (some ⟨X.b, 0, none⟩)] w (DFm X w r)
def DQu (q : Int) (X : Rx) (N : Nat) : Prop := ∀ w p r, Ds X w (.at p) → p < X.ws.length → N ≤ p → GQ X.ws q (.at (p + 1)) r → Calls Tryz.prog 68 #[.pointer (some ⟨X.b, 0, none⟩), .int .i64 q] w (DFm X w r)
/-- joint -/
theorem djoint_at (n : Nat) (hn : n < 4) (w : World) : Calls Tryz.prog 39 #[.int .i64 (n : Nat)] w fun e w' => e = .returned (.tuple #[.string (sgOf n), .int .i64 (opOf n)]) ∧ w = w' := by
  rcases (show n = 0 ∨ n = 1 ∨ n = 2 ∨ n = 3 by omega) with rfl | rfl | rfl | rfl
  all_goals
    go_enter Tryz.func39, Tryz.ntmps39
    go_wp2
    go_ret2
    exact ⟨rfl, rfl⟩
set_option maxRecDepth 100000 in
set_option maxHeartbeats 4000000 in
theorem dun_not {X : Rx} {N : Nat} {w : World} {p : Nat} {r r' : Out Fm} (h : Ds X w (.at p)) (hs : IsS X.ws p kNot) (UC : ∀ w5, Ds X w5 (.at (p + 1)) → Calls Tryz.prog 38 #[.pointer (some ⟨X.b, 0, none⟩)] w5 (DFm X w5 r')) (hp : r.pos = r'.pos) (hi : ∀ f, r'.is f → r.is (fNot f)) : Calls Tryz.prog 38 #[.pointer (some ⟨X.b, 0, none⟩)] w (DFm X w r) := by
    have hbw := h.lt
    have hWw := h.below.size
    have hR1 := rb_new w zF 26
    have h1 := h.alloc (.cells zF 26)
    have hU1 : Bux X.b w (w.alloc (.cells zF 26)) := Bux.of (bal w _)
    have SC := mkHid UC
    have HI := mkHid hi
    have HP := mkHid hp
    have hlt := IsS.lt hs
    have hsm := h.small
    clear UC hi hp
    go_enter Tryz.func38, Tryz.ntmps38
    go_wp2_with (fail)
    refine (dis_yes (x := kNot) h1 hs).mono ?_
    rintro e w2 ⟨rfl, hB2⟩
    have h2 := h1.keep hB2
    have hR2 := hR1.keep hB2
    have hU2 := hU1.trans (Bux.of hB2)
    clear hB2
    obtain ⟨t1, f1⟩ := txcell h2.at'.2 1 _ rfl
    go_wp2_with (fail)
    obtain ⟨h3, hC3⟩ := h2.next hlt
    clear t1 f1
    have hR3 := hR2.but hC3 (by omega)
    have hU3 := hU2.trans hC3
    clear hC3
    generalize w2.setCell ⟨X.b, 1, none⟩ (.int .i64 ((p : Int) + 1)) = w3 at h3 hR3 hU3 ⊢
    refine (SC.out _ h3).mono ?_
    rintro e w5 ⟨o, xs, m, bo, n1, c1, ao, n, c, f, rfl, hV5, h5, hC5, hf⟩
    have hR6 := (hR3.but hC5 (by omega)).keep (bal w5 (.cells #[.int .i64 o, .string xs, .int .i64 m, .slice bo n1 c1, .slice ao n c] 26))
    have hU6 := (hU3.trans hC5).trans (Bux.of (bal w5 (.cells #[.int .i64 o, .string xs, .int .i64 m, .slice bo n1 c1, .slice ao n c] 26)))
    have h6 := h5.alloc (.cells #[.int .i64 o, .string xs, .int .i64 m, .slice bo n1 c1, .slice ao n c] 26)
    have hs4 := (Array.getElem?_eq_some_iff.1 hR3).1
    have hs5 := hC5.size
    have hV6 := mkF1 (t := 26) (RdFn.low (P' := fun k => w.heap.size < k) (fun k _ (hg : _ ≤ k) => by omega) _ _ _ _ _ _ hV5) rfl (by omega) 2 0 emp ⟨by decide, by decide, sz_emp⟩
    obtain ⟨r0, g0⟩ := txcell hR6 0 _ rfl
    obtain ⟨r1, g1⟩ := txcell hR6 1 _ rfl
    obtain ⟨r2, g2⟩ := txcell hR6 2 _ rfl
    obtain ⟨r3, g3⟩ := txcell hR6 3 _ rfl
    obtain ⟨r4, g4⟩ := txcell hR6 4 _ rfl
    have hRy := rb_five hR6 rfl (.int .i64 2) (.string emp) (.int .i64 0) (.slice none 0 0) (.slice (some ⟨w5.heap.size, 0, none⟩) 1 1)
    obtain ⟨k0, -⟩ := txcell hRy 0 _ rfl
    obtain ⟨k1, -⟩ := txcell hRy 1 _ rfl
    obtain ⟨k2, -⟩ := txcell hRy 2 _ rfl
    obtain ⟨k3, -⟩ := txcell hRy 3 _ rfl
    obtain ⟨k4, -⟩ := txcell hRy 4 _ rfl
    go_wp2
    exact bodyPost_ret (v := .agg #[.int .i64 2, .string emp, .int .i64 0, .slice none 0 0, .slice (some ⟨w5.heap.size, 0, none⟩) 1 1]) (by simp [results, Tryz.results38, go_sem, k0, k1, k2, k3, k4]) rfl ⟨_, _, _, _, _, _, _, _, _, _, rfl, RdFn.low (fun k _ (hk : w.heap.size < k) => Nat.le_of_lt hk) _ _ _ _ _ _ (RdFn.keep (Hi.st5 (fun k (hk : w.heap.size < k) => by omega) _ (.int .i64 2) (.string emp) (.int .i64 0) (.slice none 0 0) (.slice (some ⟨w5.heap.size, 0, none⟩) 1 1)) _ _ _ _ _ _ hV6), by rw [HP.out]; exact h6.st5 (by omega) hWw (.int .i64 2) (.string emp) (.int .i64 0) (.slice none 0 0) (.slice (some ⟨w5.heap.size, 0, none⟩) 1 1), hU6.st5 (Nat.le_refl _) (.int .i64 2) (.string emp) (.int .i64 0) (.slice none 0 0) (.slice (some ⟨w5.heap.size, 0, none⟩) 1 1), HI.out f hf⟩
set_option maxRecDepth 100000 in
set_option maxHeartbeats 4000000 in
theorem dun_ex {X : Rx} {N : Nat} {w : World} {p : Nat} {r : Out Fm} (h : Ds X w (.at p)) (hs : IsS X.ws p kEx) (QC : ∀ w5, Ds X w5 (.at p) → Calls Tryz.prog 68 #[.pointer (some ⟨X.b, 0, none⟩), .int .i64 7] w5 (DFm X w5 r)) : Calls Tryz.prog 38 #[.pointer (some ⟨X.b, 0, none⟩)] w (DFm X w r) := by
    have hbw := h.lt
    have hWw := h.below.size
    have hR1 := rb_new w zF 26
    have h1 := h.alloc (.cells zF 26)
    have hU1 : Bux X.b w (w.alloc (.cells zF 26)) := Bux.of (bal w _)
    have SC := mkHid QC
    clear QC
    have hn0 : ¬ (Pos.at p).stands X.ws kNot := hs.ne (by decide)
    go_enter Tryz.func38, Tryz.ntmps38
    go_wp2_with (fail)
    refine (dis_no (x := kNot) h1 hn0).mono ?_
    rintro e w2 ⟨rfl, hB2⟩
    have h2 := h1.keep hB2
    have hR2 := hR1.keep hB2
    have hU2 := hU1.trans (Bux.of hB2)
    clear hB2
    go_wp2_with (fail)
    refine (dis_yes (x := kEx) h2 hs).mono ?_
    rintro e w3 ⟨rfl, hB3⟩
    have h3 := h2.keep hB3
    have hR3 := hR2.keep hB3
    have hU3 := hU2.trans (Bux.of hB3)
    clear hB3
    go_wp2_with (fail)
    refine (SC.out _ h3).mono ?_
    rintro e w5 ⟨o, xs, m, bo, n1, c1, ao, n, c, f, rfl, hV5, h5, hC5, hf⟩
    have hs4 := (Array.getElem?_eq_some_iff.1 hR3).1
    have hR6 := hR3.but hC5 (by omega)
    have hU6 := hU3.trans hC5
    have hV6 : RdFn (fun k => w.heap.size < k) w5 f (.int .i64 o) (.string xs) (.int .i64 m) (.slice bo n1 c1) (.slice ao n c) := RdFn.low (fun k _ (hg : _ ≤ k) => by omega) _ _ _ _ _ _ hV5
    obtain ⟨r0, g0⟩ := txcell hR6 0 _ rfl
    obtain ⟨r1, g1⟩ := txcell hR6 1 _ rfl
    obtain ⟨r2, g2⟩ := txcell hR6 2 _ rfl
    obtain ⟨r3, g3⟩ := txcell hR6 3 _ rfl
    obtain ⟨r4, g4⟩ := txcell hR6 4 _ rfl
    have hRy := rb_five hR6 rfl (.int .i64 o) (.string xs) (.int .i64 m) (.slice bo n1 c1) (.slice ao n c)
    obtain ⟨k0, -⟩ := txcell hRy 0 _ rfl
    obtain ⟨k1, -⟩ := txcell hRy 1 _ rfl
    obtain ⟨k2, -⟩ := txcell hRy 2 _ rfl
    obtain ⟨k3, -⟩ := txcell hRy 3 _ rfl
    obtain ⟨k4, -⟩ := txcell hRy 4 _ rfl
    go_wp2
    exact bodyPost_ret (v := .agg #[.int .i64 o, .string xs, .int .i64 m, .slice bo n1 c1, .slice ao n c]) (by simp [results, Tryz.results38, go_sem, k0, k1, k2, k3, k4]) rfl ⟨o, xs, m, bo, n1, c1, ao, n, c, f, rfl, RdFn.low (fun k _ (hk : w.heap.size < k) => Nat.le_of_lt hk) _ _ _ _ _ _ (RdFn.keep (Hi.st5 (fun k (hk : w.heap.size < k) => by omega) w5 (.int .i64 o) (.string xs) (.int .i64 m) (.slice bo n1 c1) (.slice ao n c)) _ _ _ _ _ _ hV6), h5.st5 (by omega) hWw (.int .i64 o) (.string xs) (.int .i64 m) (.slice bo n1 c1) (.slice ao n c), hU6.st5 (Nat.le_refl _) (.int .i64 o) (.string xs) (.int .i64 m) (.slice bo n1 c1) (.slice ao n c), hf⟩
set_option maxRecDepth 100000 in
set_option maxHeartbeats 4000000 in
theorem dun_all {X : Rx} {N : Nat} {w : World} {p : Nat} {r : Out Fm} (h : Ds X w (.at p)) (hs : IsS X.ws p kAll) (QC : ∀ w5, Ds X w5 (.at p) → Calls Tryz.prog 68 #[.pointer (some ⟨X.b, 0, none⟩), .int .i64 8] w5 (DFm X w5 r)) : Calls Tryz.prog 38 #[.pointer (some ⟨X.b, 0, none⟩)] w (DFm X w r) := by
    have hbw := h.lt
    have hWw := h.below.size
    have hR1 := rb_new w zF 26
    have h1 := h.alloc (.cells zF 26)
    have hU1 : Bux X.b w (w.alloc (.cells zF 26)) := Bux.of (bal w _)
    have SC := mkHid QC
    clear QC
    have hn0 : ¬ (Pos.at p).stands X.ws kNot := hs.ne (by decide)
    have hn1 : ¬ (Pos.at p).stands X.ws kEx := hs.ne (by decide)
    go_enter Tryz.func38, Tryz.ntmps38
    go_wp2_with (fail)
    refine (dis_no (x := kNot) h1 hn0).mono ?_
    rintro e w2 ⟨rfl, hB2⟩
    have h2 := h1.keep hB2
    have hR2 := hR1.keep hB2
    have hU2 := hU1.trans (Bux.of hB2)
    clear hB2
    go_wp2_with (fail)
    refine (dis_no (x := kEx) h2 hn1).mono ?_
    rintro e w3 ⟨rfl, hB3⟩
    have h3 := h2.keep hB3
    have hR3 := hR2.keep hB3
    have hU3 := hU2.trans (Bux.of hB3)
    clear hB3
    go_wp2_with (fail)
    refine (dis_yes (x := kAll) h3 hs).mono ?_
    rintro e w4 ⟨rfl, hB4⟩
    have h4 := h3.keep hB4
    have hR4 := hR3.keep hB4
    have hU4 := hU3.trans (Bux.of hB4)
    clear hB4
    go_wp2_with (fail)
    refine (SC.out _ h4).mono ?_
    rintro e w5 ⟨o, xs, m, bo, n1, c1, ao, n, c, f, rfl, hV5, h5, hC5, hf⟩
    have hs4 := (Array.getElem?_eq_some_iff.1 hR4).1
    have hR6 := hR4.but hC5 (by omega)
    have hU6 := hU4.trans hC5
    have hV6 : RdFn (fun k => w.heap.size < k) w5 f (.int .i64 o) (.string xs) (.int .i64 m) (.slice bo n1 c1) (.slice ao n c) := RdFn.low (fun k _ (hg : _ ≤ k) => by omega) _ _ _ _ _ _ hV5
    obtain ⟨r0, g0⟩ := txcell hR6 0 _ rfl
    obtain ⟨r1, g1⟩ := txcell hR6 1 _ rfl
    obtain ⟨r2, g2⟩ := txcell hR6 2 _ rfl
    obtain ⟨r3, g3⟩ := txcell hR6 3 _ rfl
    obtain ⟨r4, g4⟩ := txcell hR6 4 _ rfl
    have hRy := rb_five hR6 rfl (.int .i64 o) (.string xs) (.int .i64 m) (.slice bo n1 c1) (.slice ao n c)
    obtain ⟨k0, -⟩ := txcell hRy 0 _ rfl
    obtain ⟨k1, -⟩ := txcell hRy 1 _ rfl
    obtain ⟨k2, -⟩ := txcell hRy 2 _ rfl
    obtain ⟨k3, -⟩ := txcell hRy 3 _ rfl
    obtain ⟨k4, -⟩ := txcell hRy 4 _ rfl
    go_wp2
    exact bodyPost_ret (v := .agg #[.int .i64 o, .string xs, .int .i64 m, .slice bo n1 c1, .slice ao n c]) (by simp [results, Tryz.results38, go_sem, k0, k1, k2, k3, k4]) rfl ⟨o, xs, m, bo, n1, c1, ao, n, c, f, rfl, RdFn.low (fun k _ (hk : w.heap.size < k) => Nat.le_of_lt hk) _ _ _ _ _ _ (RdFn.keep (Hi.st5 (fun k (hk : w.heap.size < k) => by omega) w5 (.int .i64 o) (.string xs) (.int .i64 m) (.slice bo n1 c1) (.slice ao n c)) _ _ _ _ _ _ hV6), h5.st5 (by omega) hWw (.int .i64 o) (.string xs) (.int .i64 m) (.slice bo n1 c1) (.slice ao n c), hU6.st5 (Nat.le_refl _) (.int .i64 o) (.string xs) (.int .i64 m) (.slice bo n1 c1) (.slice ao n c), hf⟩
set_option maxRecDepth 100000 in
set_option maxHeartbeats 4000000 in
theorem dun_br {X : Rx} {N : Nat} {w : World} {p : Nat} {r r' : Out Fm} (h : Ds X w (.at p)) (hs : IsS X.ws p kOpen) (LC : ∀ w5, Ds X w5 (.at (p + 1)) → Calls Tryz.prog 18 #[.pointer (some ⟨X.b, 0, none⟩), .int .i64 0] w5 (DFm X w5 r')) (hn : r'.pos.need X.ws kShut r.pos) (hi : ∀ f, r'.is f → r.is f) : Calls Tryz.prog 38 #[.pointer (some ⟨X.b, 0, none⟩)] w (DFm X w r) := by
    have hbw := h.lt
    have hWw := h.below.size
    have hR1 := rb_new w zF 26
    have h1 := h.alloc (.cells zF 26)
    have hU1 : Bux X.b w (w.alloc (.cells zF 26)) := Bux.of (bal w _)
    have SC := mkHid LC
    have HI := mkHid hi
    have HN := mkHid hn
    have hlt := IsS.lt hs
    have hsm := h.small
    clear LC hi hn
    have hn0 : ¬ (Pos.at p).stands X.ws kNot := hs.ne (by decide)
    have hn1 : ¬ (Pos.at p).stands X.ws kEx := hs.ne (by decide)
    have hn2 : ¬ (Pos.at p).stands X.ws kAll := hs.ne (by decide)
    go_enter Tryz.func38, Tryz.ntmps38
    go_wp2_with (fail)
    refine (dis_no (x := kNot) h1 hn0).mono ?_
    rintro e w2 ⟨rfl, hB2⟩
    have h2 := h1.keep hB2
    have hR2 := hR1.keep hB2
    have hU2 := hU1.trans (Bux.of hB2)
    clear hB2
    go_wp2_with (fail)
    refine (dis_no (x := kEx) h2 hn1).mono ?_
    rintro e w3 ⟨rfl, hB3⟩
    have h3 := h2.keep hB3
    have hR3 := hR2.keep hB3
    have hU3 := hU2.trans (Bux.of hB3)
    clear hB3
    go_wp2_with (fail)
    refine (dis_no (x := kAll) h3 hn2).mono ?_
    rintro e w4 ⟨rfl, hB4⟩
    have h4 := h3.keep hB4
    have hR4 := hR3.keep hB4
    have hU4 := hU3.trans (Bux.of hB4)
    clear hB4
    go_wp2_with (fail)
    refine (dis_yes (x := kOpen) h4 hs).mono ?_
    rintro e w5 ⟨rfl, hB5⟩
    have h5 := h4.keep hB5
    have hR5 := hR4.keep hB5
    have hU5 := hU4.trans (Bux.of hB5)
    clear hB5
    obtain ⟨t1, f1⟩ := txcell h5.at'.2 1 _ rfl
    go_wp2_with (fail)
    obtain ⟨h6, hC6⟩ := h5.next hlt
    clear t1 f1
    have hR6 := hR5.but hC6 (by omega)
    have hU6 := hU5.trans hC6
    clear hC6
    generalize w5.setCell ⟨X.b, 1, none⟩ (.int .i64 ((p : Int) + 1)) = w6 at h6 hR6 hU6 ⊢
    refine (SC.out _ h6).mono ?_
    rintro e w7 ⟨o, xs, m, bo, n1, c1, ao, n, c, f, rfl, hV7, h7, hC7, hf'⟩
    have hf := HI.out f hf'
    have hs6 := (Array.getElem?_eq_some_iff.1 hR6).1
    have hs7 := hC7.size
    have hR8 := (hR6.but hC7 (by omega)).keep (bal w7 (.cells #[.int .i64 o, .string xs, .int .i64 m, .slice bo n1 c1, .slice ao n c] 26))
    have hU8 := (hU6.trans hC7).trans (Bux.of (bal w7 (.cells #[.int .i64 o, .string xs, .int .i64 m, .slice bo n1 c1, .slice ao n c] 26)))
    have hX8 := rb_new w7 #[.int .i64 o, .string xs, .int .i64 m, .slice bo n1 c1, .slice ao n c] 26
    have hV8 : RdFn (fun k => w.heap.size < k) (w7.alloc (.cells #[.int .i64 o, .string xs, .int .i64 m, .slice bo n1 c1, .slice ao n c] 26)) f (.int .i64 o) (.string xs) (.int .i64 m) (.slice bo n1 c1) (.slice ao n c) := RdFn.keep (Hi.of (bal w7 _)) _ _ _ _ _ _ (RdFn.low (fun k _ (hg : _ ≤ k) => by omega) _ _ _ _ _ _ hV7)
    have hb7 := h7.lt
    go_wp2_with (fail)
    refine (dpast_at (x := kShut) (h7.alloc _) HN.out).mono ?_
    rintro e w9 ⟨rfl, h9, hC9⟩
    have hR9 := hR8.but hC9 (by omega)
    have hU9 := hU8.trans hC9
    have hX9 := hX8.but hC9 (by omega)
    have hV9 := RdFn.keep (Hi.but hC9 (fun k (hk : w.heap.size < k) => by omega)) _ _ _ _ _ _ hV8
    obtain ⟨x0, -⟩ := txcell hX9 0 _ rfl
    obtain ⟨x1, -⟩ := txcell hX9 1 _ rfl
    obtain ⟨x2, -⟩ := txcell hX9 2 _ rfl
    obtain ⟨x3, -⟩ := txcell hX9 3 _ rfl
    obtain ⟨x4, -⟩ := txcell hX9 4 _ rfl
    obtain ⟨r0, g0⟩ := txcell hR9 0 _ rfl
    obtain ⟨r1, g1⟩ := txcell hR9 1 _ rfl
    obtain ⟨r2, g2⟩ := txcell hR9 2 _ rfl
    obtain ⟨r3, g3⟩ := txcell hR9 3 _ rfl
    obtain ⟨r4, g4⟩ := txcell hR9 4 _ rfl
    have hRy := rb_five hR9 rfl (.int .i64 o) (.string xs) (.int .i64 m) (.slice bo n1 c1) (.slice ao n c)
    obtain ⟨k0, -⟩ := txcell hRy 0 _ rfl
    obtain ⟨k1, -⟩ := txcell hRy 1 _ rfl
    obtain ⟨k2, -⟩ := txcell hRy 2 _ rfl
    obtain ⟨k3, -⟩ := txcell hRy 3 _ rfl
    obtain ⟨k4, -⟩ := txcell hRy 4 _ rfl
    go_wp2
    exact bodyPost_ret (v := .agg #[.int .i64 o, .string xs, .int .i64 m, .slice bo n1 c1, .slice ao n c]) (by simp [results, Tryz.results38, go_sem, k0, k1, k2, k3, k4]) rfl ⟨o, xs, m, bo, n1, c1, ao, n, c, f, rfl, RdFn.low (fun k _ (hk : w.heap.size < k) => Nat.le_of_lt hk) _ _ _ _ _ _ (RdFn.keep (Hi.st5 (fun k (hk : w.heap.size < k) => by omega) w9 (.int .i64 o) (.string xs) (.int .i64 m) (.slice bo n1 c1) (.slice ao n c)) _ _ _ _ _ _ hV9), h9.st5 (by omega) hWw (.int .i64 o) (.string xs) (.int .i64 m) (.slice bo n1 c1) (.slice ao n c), hU9.st5 (Nat.le_refl _) (.int .i64 o) (.string xs) (.int .i64 m) (.slice bo n1 c1) (.slice ao n c), hf⟩
end Go.Proofs.YtabfhdmcljdjhaaGreatDoor.Gl
/- The document's reader: unary whole. -/
namespace Go.Proofs.YtabfhdmcljdjhaaGreatDoor.Gl
open Go.RowKit
set_option linter.unusedVariables false
set_option linter.unusedSimpArgs false

set_option maxRecDepth 100000 in
set_option maxHeartbeats 4000000 in
theorem dun_tru {X : Rx} {N : Nat} {w : World} {p : Nat} {r : Out Fm} (h : Ds X w (.at p)) (hs : IsS X.ws p kTrue) (hr : r = .ok fTrue (p + 1)) : Calls Tryz.prog 38 #[.pointer (some ⟨X.b, 0, none⟩)] w (DFm X w r) := by
    have hbw := h.lt
    have hWw := h.below.size
    have hR1 := rb_new w zF 26
    have h1 := h.alloc (.cells zF 26)
    have hU1 : Bux X.b w (w.alloc (.cells zF 26)) := Bux.of (bal w _)
    subst hr
    have hlt := IsS.lt hs
    have hsm := h.small
    have hn0 : ¬ (Pos.at p).stands X.ws kNot := hs.ne (by decide)
    have hn1 : ¬ (Pos.at p).stands X.ws kEx := hs.ne (by decide)
    have hn2 : ¬ (Pos.at p).stands X.ws kAll := hs.ne (by decide)
    have hn3 : ¬ (Pos.at p).stands X.ws kOpen := hs.ne (by decide)
    go_enter Tryz.func38, Tryz.ntmps38
    go_wp2_with (fail)
    refine (dis_no (x := kNot) h1 hn0).mono ?_
    rintro e w2 ⟨rfl, hB2⟩
    have h2 := h1.keep hB2
    have hR2 := hR1.keep hB2
    have hU2 := hU1.trans (Bux.of hB2)
    clear hB2
    go_wp2_with (fail)
    refine (dis_no (x := kEx) h2 hn1).mono ?_
    rintro e w3 ⟨rfl, hB3⟩
    have h3 := h2.keep hB3
    have hR3 := hR2.keep hB3
    have hU3 := hU2.trans (Bux.of hB3)
    clear hB3
    go_wp2_with (fail)
    refine (dis_no (x := kAll) h3 hn2).mono ?_
    rintro e w4 ⟨rfl, hB4⟩
    have h4 := h3.keep hB4
    have hR4 := hR3.keep hB4
    have hU4 := hU3.trans (Bux.of hB4)
    clear hB4
    go_wp2_with (fail)
    refine (dis_no (x := kOpen) h4 hn3).mono ?_
    rintro e w5 ⟨rfl, hB5⟩
    have h5 := h4.keep hB5
    have hR5 := hR4.keep hB5
    have hU5 := hU4.trans (Bux.of hB5)
    clear hB5
    go_wp2_with (fail)
    refine (dis_yes (x := kTrue) h5 hs).mono ?_
    rintro e w6 ⟨rfl, hB6⟩
    have h6 := h5.keep hB6
    have hR6 := hR5.keep hB6
    have hU6 := hU5.trans (Bux.of hB6)
    clear hB6
    obtain ⟨t1, f1⟩ := txcell h6.at'.2 1 _ rfl
    have hnx := h6.next hlt
    have hR9 := hR6.but hnx.2 (by omega)
    obtain ⟨r0, g0⟩ := txcell hR9 0 _ rfl
    obtain ⟨r1, g1⟩ := txcell hR9 1 _ rfl
    obtain ⟨r2, g2⟩ := txcell hR9 2 _ rfl
    obtain ⟨r3, g3⟩ := txcell hR9 3 _ rfl
    obtain ⟨r4, g4⟩ := txcell hR9 4 _ rfl
    have hRy := rb_five hR9 rfl (.int .i64 0) (.string emp) (.int .i64 0) (.slice none 0 0) (.slice none 0 0)
    obtain ⟨k0, -⟩ := txcell hRy 0 _ rfl
    obtain ⟨k1, -⟩ := txcell hRy 1 _ rfl
    obtain ⟨k2, -⟩ := txcell hRy 2 _ rfl
    obtain ⟨k3, -⟩ := txcell hRy 3 _ rfl
    obtain ⟨k4, -⟩ := txcell hRy 4 _ rfl
    go_wp2
    exact bodyPost_ret (v := .agg #[.int .i64 0, .string emp, .int .i64 0, .slice none 0 0, .slice none 0 0]) (by simp [results, Tryz.results38, go_sem, k0, k1, k2, k3, k4]) rfl ⟨_, _, _, _, _, _, _, _, _, _, rfl, leafF 0 0 emp ⟨by decide, by decide, sz_emp⟩, hnx.1.st5 (by omega) hWw (.int .i64 0) (.string emp) (.int .i64 0) (.slice none 0 0) (.slice none 0 0), (hU6.trans hnx.2).st5 (Nat.le_refl _) (.int .i64 0) (.string emp) (.int .i64 0) (.slice none 0 0) (.slice none 0 0), is_ok rfl⟩
set_option maxRecDepth 100000 in
set_option maxHeartbeats 4000000 in
theorem dun_fls {X : Rx} {N : Nat} {w : World} {p : Nat} {r : Out Fm} (h : Ds X w (.at p)) (hs : IsS X.ws p kFalse) (hr : r = .ok fFalse (p + 1)) : Calls Tryz.prog 38 #[.pointer (some ⟨X.b, 0, none⟩)] w (DFm X w r) := by
    have hbw := h.lt
    have hWw := h.below.size
    have hR1 := rb_new w zF 26
    have h1 := h.alloc (.cells zF 26)
    have hU1 : Bux X.b w (w.alloc (.cells zF 26)) := Bux.of (bal w _)
    subst hr
    have hlt := IsS.lt hs
    have hsm := h.small
    have hn0 : ¬ (Pos.at p).stands X.ws kNot := hs.ne (by decide)
    have hn1 : ¬ (Pos.at p).stands X.ws kEx := hs.ne (by decide)
    have hn2 : ¬ (Pos.at p).stands X.ws kAll := hs.ne (by decide)
    have hn3 : ¬ (Pos.at p).stands X.ws kOpen := hs.ne (by decide)
    have hn4 : ¬ (Pos.at p).stands X.ws kTrue := hs.ne (by decide)
    go_enter Tryz.func38, Tryz.ntmps38
    go_wp2_with (fail)
    refine (dis_no (x := kNot) h1 hn0).mono ?_
    rintro e w2 ⟨rfl, hB2⟩
    have h2 := h1.keep hB2
    have hR2 := hR1.keep hB2
    have hU2 := hU1.trans (Bux.of hB2)
    clear hB2
    go_wp2_with (fail)
    refine (dis_no (x := kEx) h2 hn1).mono ?_
    rintro e w3 ⟨rfl, hB3⟩
    have h3 := h2.keep hB3
    have hR3 := hR2.keep hB3
    have hU3 := hU2.trans (Bux.of hB3)
    clear hB3
    go_wp2_with (fail)
    refine (dis_no (x := kAll) h3 hn2).mono ?_
    rintro e w4 ⟨rfl, hB4⟩
    have h4 := h3.keep hB4
    have hR4 := hR3.keep hB4
    have hU4 := hU3.trans (Bux.of hB4)
    clear hB4
    go_wp2_with (fail)
    refine (dis_no (x := kOpen) h4 hn3).mono ?_
    rintro e w5 ⟨rfl, hB5⟩
    have h5 := h4.keep hB5
    have hR5 := hR4.keep hB5
    have hU5 := hU4.trans (Bux.of hB5)
    clear hB5
    go_wp2_with (fail)
    refine (dis_no (x := kTrue) h5 hn4).mono ?_
    rintro e w6 ⟨rfl, hB6⟩
    have h6 := h5.keep hB6
    have hR6 := hR5.keep hB6
    have hU6 := hU5.trans (Bux.of hB6)
    clear hB6
    go_wp2_with (fail)
    refine (dis_yes (x := kFalse) h6 hs).mono ?_
    rintro e w7 ⟨rfl, hB7⟩
    have h7 := h6.keep hB7
    have hR7 := hR6.keep hB7
    have hU7 := hU6.trans (Bux.of hB7)
    clear hB7
    obtain ⟨t1, f1⟩ := txcell h7.at'.2 1 _ rfl
    have hnx := h7.next hlt
    have hR9 := hR7.but hnx.2 (by omega)
    obtain ⟨r0, g0⟩ := txcell hR9 0 _ rfl
    obtain ⟨r1, g1⟩ := txcell hR9 1 _ rfl
    obtain ⟨r2, g2⟩ := txcell hR9 2 _ rfl
    obtain ⟨r3, g3⟩ := txcell hR9 3 _ rfl
    obtain ⟨r4, g4⟩ := txcell hR9 4 _ rfl
    have hRy := rb_five hR9 rfl (.int .i64 1) (.string emp) (.int .i64 0) (.slice none 0 0) (.slice none 0 0)
    obtain ⟨k0, -⟩ := txcell hRy 0 _ rfl
    obtain ⟨k1, -⟩ := txcell hRy 1 _ rfl
    obtain ⟨k2, -⟩ := txcell hRy 2 _ rfl
    obtain ⟨k3, -⟩ := txcell hRy 3 _ rfl
    obtain ⟨k4, -⟩ := txcell hRy 4 _ rfl
    go_wp2
    exact bodyPost_ret (v := .agg #[.int .i64 1, .string emp, .int .i64 0, .slice none 0 0, .slice none 0 0]) (by simp [results, Tryz.results38, go_sem, k0, k1, k2, k3, k4]) rfl ⟨_, _, _, _, _, _, _, _, _, _, rfl, leafF 1 0 emp ⟨by decide, by decide, sz_emp⟩, hnx.1.st5 (by omega) hWw (.int .i64 1) (.string emp) (.int .i64 0) (.slice none 0 0) (.slice none 0 0), (hU7.trans hnx.2).st5 (Nat.le_refl _) (.int .i64 1) (.string emp) (.int .i64 0) (.slice none 0 0) (.slice none 0 0), is_ok rfl⟩
set_option maxRecDepth 100000 in
set_option maxHeartbeats 4000000 in
theorem dun_atm {X : Rx} {N : Nat} {w : World} {P : Pos} {r : Out Fm} (h : Ds X w P) (hno : ∀ x ∈ uns, ¬ P.stands X.ws x) (AC : ∀ w5, Ds X w5 P → Calls Tryz.prog 70 #[.pointer (some ⟨X.b, 0, none⟩)] w5 (DFm X w5 r)) : Calls Tryz.prog 38 #[.pointer (some ⟨X.b, 0, none⟩)] w (DFm X w r) := by
    have hbw := h.lt
    have hWw := h.below.size
    have hR1 := rb_new w zF 26
    have h1 := h.alloc (.cells zF 26)
    have hU1 : Bux X.b w (w.alloc (.cells zF 26)) := Bux.of (bal w _)
    have SC := mkHid AC
    clear AC
    have hn0 : ¬ P.stands X.ws kNot := hno _ (by simp [uns])
    have hn1 : ¬ P.stands X.ws kEx := hno _ (by simp [uns])
    have hn2 : ¬ P.stands X.ws kAll := hno _ (by simp [uns])
    have hn3 : ¬ P.stands X.ws kOpen := hno _ (by simp [uns])
    have hn4 : ¬ P.stands X.ws kTrue := hno _ (by simp [uns])
    have hn5 : ¬ P.stands X.ws kFalse := hno _ (by simp [uns])
    go_enter Tryz.func38, Tryz.ntmps38
    go_wp2_with (fail)
    refine (dis_no (x := kNot) h1 hn0).mono ?_
    rintro e w2 ⟨rfl, hB2⟩
    have h2 := h1.keep hB2
    have hR2 := hR1.keep hB2
    have hU2 := hU1.trans (Bux.of hB2)
    clear hB2
    go_wp2_with (fail)
    refine (dis_no (x := kEx) h2 hn1).mono ?_
    rintro e w3 ⟨rfl, hB3⟩
    have h3 := h2.keep hB3
    have hR3 := hR2.keep hB3
    have hU3 := hU2.trans (Bux.of hB3)
    clear hB3
    go_wp2_with (fail)
    refine (dis_no (x := kAll) h3 hn2).mono ?_
    rintro e w4 ⟨rfl, hB4⟩
    have h4 := h3.keep hB4
    have hR4 := hR3.keep hB4
    have hU4 := hU3.trans (Bux.of hB4)
    clear hB4
    go_wp2_with (fail)
    refine (dis_no (x := kOpen) h4 hn3).mono ?_
    rintro e w5 ⟨rfl, hB5⟩
    have h5 := h4.keep hB5
    have hR5 := hR4.keep hB5
    have hU5 := hU4.trans (Bux.of hB5)
    clear hB5
    go_wp2_with (fail)
    refine (dis_no (x := kTrue) h5 hn4).mono ?_
    rintro e w6 ⟨rfl, hB6⟩
    have h6 := h5.keep hB6
    have hR6 := hR5.keep hB6
    have hU6 := hU5.trans (Bux.of hB6)
    clear hB6
    go_wp2_with (fail)
    refine (dis_no (x := kFalse) h6 hn5).mono ?_
    rintro e w7 ⟨rfl, hB7⟩
    have h7 := h6.keep hB7
    have hR7 := hR6.keep hB7
    have hU7 := hU6.trans (Bux.of hB7)
    clear hB7
    go_wp2_with (fail)
    refine (SC.out _ h7).mono ?_
    rintro e w9 ⟨o, xs, m, bo, n1, c1, ao, n, c, f, rfl, hV9, h9, hC9, hf⟩
    have hs7 := (Array.getElem?_eq_some_iff.1 hR7).1
    have hR10 := hR7.but hC9 (by omega)
    have hU10 := hU7.trans hC9
    have hV10 : RdFn (fun k => w.heap.size < k) w9 f (.int .i64 o) (.string xs) (.int .i64 m) (.slice bo n1 c1) (.slice ao n c) := RdFn.low (fun k _ (hg : _ ≤ k) => by omega) _ _ _ _ _ _ hV9
    obtain ⟨r0, g0⟩ := txcell hR10 0 _ rfl
    obtain ⟨r1, g1⟩ := txcell hR10 1 _ rfl
    obtain ⟨r2, g2⟩ := txcell hR10 2 _ rfl
    obtain ⟨r3, g3⟩ := txcell hR10 3 _ rfl
    obtain ⟨r4, g4⟩ := txcell hR10 4 _ rfl
    have hRy := rb_five hR10 rfl (.int .i64 o) (.string xs) (.int .i64 m) (.slice bo n1 c1) (.slice ao n c)
    obtain ⟨k0, -⟩ := txcell hRy 0 _ rfl
    obtain ⟨k1, -⟩ := txcell hRy 1 _ rfl
    obtain ⟨k2, -⟩ := txcell hRy 2 _ rfl
    obtain ⟨k3, -⟩ := txcell hRy 3 _ rfl
    obtain ⟨k4, -⟩ := txcell hRy 4 _ rfl
    go_wp2
    exact bodyPost_ret (v := .agg #[.int .i64 o, .string xs, .int .i64 m, .slice bo n1 c1, .slice ao n c]) (by simp [results, Tryz.results38, go_sem, k0, k1, k2, k3, k4]) rfl ⟨o, xs, m, bo, n1, c1, ao, n, c, f, rfl, RdFn.low (fun k _ (hk : w.heap.size < k) => Nat.le_of_lt hk) _ _ _ _ _ _ (RdFn.keep (Hi.st5 (fun k (hk : w.heap.size < k) => by omega) w9 (.int .i64 o) (.string xs) (.int .i64 m) (.slice bo n1 c1) (.slice ao n c)) _ _ _ _ _ _ hV10), h9.st5 (by omega) hWw (.int .i64 o) (.string xs) (.int .i64 m) (.slice bo n1 c1) (.slice ao n c), hU10.st5 (Nat.le_refl _) (.int .i64 o) (.string xs) (.int .i64 m) (.slice bo n1 c1) (.slice ao n c), hf⟩
theorem dun_step {X : Rx} {N : Nat} (A : DAtm X N) (Q7 : DQu 7 X N) (Q8 : DQu 8 X N) (I : N < X.ws.length → DUn X (N + 1) ∧ DLev 0 X (N + 1)) : DUn X N := by
  intro w P r h hP hr
  cases P with
  | bad y q =>
    cases hr with
    | bad => exact dun_atm (N := 0) h (fun x _ hs => hs) (fun w5 h5 => A w5 _ _ h5 hP .bad)
  | «at» p =>
    have hN : N ≤ p := hP
    cases gu_of hr with
    | not hs hx =>
      obtain ⟨r', hr', hp, hi⟩ := hx
      have hlt := hs.lt
      exact dun_not (N := 0) h hs (fun w5 h5 => (I (by omega)).1 w5 _ r' h5 (by show N + 1 ≤ p + 1; omega) hr') hp hi
    | qu hx hs hq =>
      have hlt := hs.lt
      rcases hx with ⟨rfl, rfl⟩ | ⟨rfl, rfl⟩
      · exact dun_ex (N := 0) h hs (fun w5 h5 => Q7 w5 p r h5 hlt hN hq)
      · exact dun_all (N := 0) h hs (fun w5 h5 => Q8 w5 p r h5 hlt hN hq)
    | br hs hx =>
      obtain ⟨r', hr', hn, hi⟩ := hx
      have hlt := hs.lt
      exact dun_br (N := 0) h hs (fun w5 h5 => (I (by omega)).2 w5 _ r' h5 (by show N + 1 ≤ p + 1; omega) hr') hn hi
    | tru hs e => exact dun_tru (N := 0) h hs e
    | fls hs e => exact dun_fls (N := 0) h hs e
    | atom hno ha => exact dun_atm (N := 0) h (fun x hx => hno x hx) (fun w5 h5 => A w5 _ r h5 hP ha)
end Go.Proofs.YtabfhdmcljdjhaaGreatDoor.Gl
