/- The landed reader: atom. -/
import Derived.Test.YtabfhdmcljdjhaaGreatDoorPcK
import Derived.Test.YtabfhdmcljdjhaaGreatDoorPcL
import Derived.Test.YtabfhdmcljdjhaaGreatDoorPcE
namespace Go.Proofs.YtabfhdmcljdjhaaGreatDoor.Gl
open Go.RowKit
set_option linter.unusedVariables false
set_option linter.unusedSimpArgs false

def AtC (X : Rx) (N : Nat) : Prop := ∀ w P r, Ps X w P → P.from N → GA X.ws P r → Calls Tryz.prog 107 #[.pointer (some ⟨X.b, 0, none⟩)] w (FmRes X w r)
set_option maxRecDepth 100000 in
set_option maxHeartbeats 4000000 in
theorem atom_step {X : Rx} {N : Nat} (hWd : WdOk X.ws) (T : SumC X N) : AtC X N := by
  intro w P r h hP hr
  obtain ⟨r1, hr1, hA⟩ := ga_of hr
  obtain ⟨i, P2, hi⟩ := gr_ex X.ws r1.pos
  obtain ⟨r3, hr3, hno, hnone, hyes⟩ := hA i P2 hi
  have hf1 := hr1.from hP
  have hf2 := hi.from hf1
  have hbw := h.lt
  have hWw := h.below.size
  have hR1 := rb_new w zF 26
  have h1 := h.alloc (.cells zF 26)
  have hB1 : Bux X.b w (w.alloc (.cells zF 26)) := Bux.of (bal w _)
  have T1 := mkHid (T _ _ _ h1 hP hr1)
  have T3 := mkHid (fun w5 (h5 : Ps X w5 P2) => T w5 P2 r3 h5 hf2 hr3)
  by_cases h6 : i = some 6
  · have RC : Hid (∀ w3, Ps X w3 r1.pos → Calls Tryz.prog 114 #[.pointer (some ⟨X.b, 0, none⟩)] w3 fun e w' => e = .returned (.int .i64 15) ∧ Ps X w' P2 ∧ Bux X.b w3 w') := fun w3 h3 => (relation_at h3 hi).mono fun e w' ⟨o, he, ho, _, hp, hb⟩ => ⟨by rw [he, (ho 6 h6).2]; rfl, hp, hb⟩
    obtain ⟨P4, hn4⟩ := need_ex X.ws kMod r3.pos
    obtain ⟨r5, hr5, hp5, hi5⟩ := hyes h6 P4 hn4
    have HN := mkHid hn4
    have MC := mkHid (fun w7 (h7 : Ps X w7 P4) => modulus_at h7 hWd hr5)
    have HP := mkHid hp5
    have HI := mkHid hi5
    clear hr hr1 hA hi hr3 hno hnone hyes hf1 hf2 h6 hn4 hr5 hp5 hi5 T hP
    go_enter Tryz.func107, Tryz.ntmps107
    go_wp2_with (first
      | (go_at_call 23; refine (T1.out).mono ?_; rintro e w2 ⟨o, m, xs, lo, ln, lc, a, rfl, hV2, h2, hC2, ha⟩; have hR2 := (hR1.but hC2 (by omega)).keep (bal w2 (.cells #[.int .i64 o, .int .i64 m, .string xs, .slice lo ln lc] 43)); have hU2 := (hB1.trans hC2).trans (Bux.of (bal w2 (.cells #[.int .i64 o, .int .i64 m, .string xs, .slice lo ln lc] 43))); have hX2 := rb_new w2 #[.int .i64 o, .int .i64 m, .string xs, .slice lo ln lc] 43; have hs2 : w.heap.size < w2.heap.size := (Array.getElem?_eq_some_iff.1 (hR1.but hC2 (by omega))).1; have hb2 := h2.lt)
      | (go_at_call 114; refine (RC.out _ (h2.alloc _)).mono ?_; rintro e w3 ⟨rfl, h3, hC3⟩; have hX3 := hX2.but hC3 (by omega); have hR3 := (hR2.but hC3 (by omega)).keep (bal w3 (.cells #[.int .i64 15, .string emp, .int .i64 0, .slice none 0 0, .slice none 0 0] 26)); have hU3 := (hU2.trans hC3).trans (Bux.of (bal w3 (.cells #[.int .i64 15, .string emp, .int .i64 0, .slice none 0 0, .slice none 0 0] 26))); have hF3 := rb_new w3 #[.int .i64 15, .string emp, .int .i64 0, .slice none 0 0, .slice none 0 0] 26; have hs3 := (Array.getElem?_eq_some_iff.1 hX3).1; have hb3 := h3.lt; have h3a := h3.alloc (.cells #[.int .i64 15, .string emp, .int .i64 0, .slice none 0 0, .slice none 0 0] 26); have hX3a := hX3.keep (bal w3 (.cells #[.int .i64 15, .string emp, .int .i64 0, .slice none 0 0, .slice none 0 0] 26)); have hV3 : RdTn (fun k => w.heap.size < k ∧ k ≠ w3.heap.size) (w3.alloc (.cells #[.int .i64 15, .string emp, .int .i64 0, .slice none 0 0, .slice none 0 0] 26)) a (.int .i64 o) (.int .i64 m) (.string xs) (.slice lo ln lc) := RdTn.keep (Hi.of (bal w3 _)) _ _ _ _ _ (RdTn.low (P := fun k => w.heap.size < k) (fun k hk (hg : w.heap.size < k) => ⟨hg, by omega⟩) _ _ _ _ _ (RdTn.keep (Hi.but hC3 (fun k (hk : w.heap.size < k) => by omega)) _ _ _ _ _ (RdTn.keep (Hi.of (bal w2 _)) _ _ _ _ _ (RdTn.low (fun k hk (hg : _ ≤ k) => by simp only [World.size_alloc] at hg; omega) _ _ _ _ _ hV2)))); obtain ⟨x0, -⟩ := txcell hX3a 0 _ rfl; obtain ⟨x1, -⟩ := txcell hX3a 1 _ rfl; obtain ⟨x2, -⟩ := txcell hX3a 2 _ rfl; obtain ⟨x3, -⟩ := txcell hX3a 3 _ rfl))
    generalize hw4 : w3.alloc (.cells #[.int .i64 15, .string emp, .int .i64 0, .slice none 0 0, .slice none 0 0] 26) = w4 at hR3 hU3 hF3 h3a hX3a hV3 x0 x1 x2 x3
    subst hw4
    have hs4 : (w3.alloc (.cells #[.int .i64 15, .string emp, .int .i64 0, .slice none 0 0, .slice none 0 0] 26)).heap.size = w3.heap.size + 1 := World.size_alloc ..
    go_region_with (go_at_call 23
                    refine (T3.out _ ?_).mono ?_
                    exact h3a.drew
                    rintro e w5 ⟨o2, m2, xs2, lo2, ln2, lc2, b, rfl, hY5, h5, hC5, hb⟩
                    have hX5 := Rb.but (w := (w3.alloc (.cells #[.int .i64 15, .string emp, .int .i64 0, .slice none 0 0, .slice none 0 0] 26)).drew) hX3a hC5 (by omega)
                    have hF5 := Rb.but (w := (w3.alloc (.cells #[.int .i64 15, .string emp, .int .i64 0, .slice none 0 0, .slice none 0 0] 26)).drew) hF3 hC5 (by omega)
                    have hR5 := Rb.but (w := (w3.alloc (.cells #[.int .i64 15, .string emp, .int .i64 0, .slice none 0 0, .slice none 0 0] 26)).drew) hR3 hC5 (by omega)
                    have hU5 := (but_drew hU3).trans hC5
                    have hs5 : (w3.alloc (.cells #[.int .i64 15, .string emp, .int .i64 0, .slice none 0 0, .slice none 0 0] 26)).heap.size ≤ w5.heap.size := hC5.size
                    have hV5 := RdTn.keep (W := (w3.alloc (.cells #[.int .i64 15, .string emp, .int .i64 0, .slice none 0 0, .slice none 0 0] 26)).drew) (Hi.but hC5 (fun k hk => by omega)) _ _ _ _ _ (RdTn.keep (Hi.of (Below.refl _ (w3.alloc (.cells #[.int .i64 15, .string emp, .int .i64 0, .slice none 0 0, .slice none 0 0] 26))).drew) _ _ _ _ _ hV3)
                    have hW5 : RdTn (fun k => w.heap.size < k ∧ k ≠ w3.heap.size) w5 b (.int .i64 o2) (.int .i64 m2) (.string xs2) (.slice lo2 ln2 lc2) := RdTn.low (fun k _ (hk : (w3.alloc (.cells #[.int .i64 15, .string emp, .int .i64 0, .slice none 0 0, .slice none 0 0] 26)).heap.size ≤ k) => ⟨by omega, by omega⟩) _ _ _ _ _ hY5
                    obtain ⟨z0, -⟩ := txcell hX5 0 _ rfl
                    obtain ⟨z1, -⟩ := txcell hX5 1 _ rfl
                    obtain ⟨z2, -⟩ := txcell hX5 2 _ rfl
                    obtain ⟨z3, -⟩ := txcell hX5 3 _ rfl
                    have hq3 : w3.heap.size < w5.heap.size := by omega
                    have hF5a := hF5.keep (bal w5 (.cells #[.int .i64 o, .int .i64 m, .string xs, .slice lo ln lc, .int .i64 o2, .int .i64 m2, .string xs2, .slice lo2 ln2 lc2] 43))
                    obtain ⟨y3, q3⟩ := txcell hF5a 3 _ rfl
                    have hz5 : (w5.setCell ⟨w3.heap.size, 3, none⟩ (.slice (some ⟨w5.heap.size, 0, none⟩) 2 2)).heap.size = w5.heap.size := by simp [World.setCell]
                    have h6 := (h5.other (B := w3.heap.size) (by omega) (by omega) 3 (.slice (some ⟨w5.heap.size, 0, none⟩) 2 2)).alloc (.cells #[.int .i64 o, .int .i64 m, .string xs, .slice lo ln lc, .int .i64 o2, .int .i64 m2, .string xs2, .slice lo2 ln2 lc2] 43)
                    have hR6 := (hR5.other (X := w3.heap.size) (by omega) 3 (.slice (some ⟨w5.heap.size, 0, none⟩) 2 2)).keep (bal _ (.cells #[.int .i64 o, .int .i64 m, .string xs, .slice lo ln lc, .int .i64 o2, .int .i64 m2, .string xs2, .slice lo2 ln2 lc2] 43))
                    have hU6 := (but_new (B := w3.heap.size) hU5 (by omega) 3 (.slice (some ⟨w5.heap.size, 0, none⟩) 2 2)).trans (Bux.of (bal _ (.cells #[.int .i64 o, .int .i64 m, .string xs, .slice lo ln lc, .int .i64 o2, .int .i64 m2, .string xs2, .slice lo2 ln2 lc2] 43)))
                    have hF6a : Rb (w5.setCell ⟨w3.heap.size, 3, none⟩ (.slice (some ⟨w5.heap.size, 0, none⟩) 2 2)) w3.heap.size #[.int .i64 15, .string emp, .int .i64 0, .slice (some ⟨w5.heap.size, 0, none⟩) 2 2, .slice none 0 0] 26 := tx_set hF5 3 (.slice (some ⟨w5.heap.size, 0, none⟩) 2 2)
                    have hF6 := hF6a.keep (bal _ (.cells #[.int .i64 o, .int .i64 m, .string xs, .slice lo ln lc, .int .i64 o2, .int .i64 m2, .string xs2, .slice lo2 ln2 lc2] 43))
                    have hG6 := rb_new (w5.setCell ⟨w3.heap.size, 3, none⟩ (.slice (some ⟨w5.heap.size, 0, none⟩) 2 2)) #[.int .i64 o, .int .i64 m, .string xs, .slice lo ln lc, .int .i64 o2, .int .i64 m2, .string xs2, .slice lo2 ln2 lc2] 43
                    rw [hz5] at hG6
                    clear hz5
                    have hV6 := RdTn.keep (((Hi.refl _ w5).set (g := w3.heap.size) (fun k (hk : w.heap.size < k ∧ k ≠ w3.heap.size) => hk.2) 3 (.slice (some ⟨w5.heap.size, 0, none⟩) 2 2)).trans (Hi.of (bal _ (.cells #[.int .i64 o, .int .i64 m, .string xs, .slice lo ln lc, .int .i64 o2, .int .i64 m2, .string xs2, .slice lo2 ln2 lc2] 43)))) _ _ _ _ _ hV5
                    have hW6 := RdTn.keep (((Hi.refl _ w5).set (g := w3.heap.size) (fun k (hk : w.heap.size < k ∧ k ≠ w3.heap.size) => hk.2) 3 (.slice (some ⟨w5.heap.size, 0, none⟩) 2 2)).trans (Hi.of (bal _ (.cells #[.int .i64 o, .int .i64 m, .string xs, .slice lo ln lc, .int .i64 o2, .int .i64 m2, .string xs2, .slice lo2 ln2 lc2] 43)))) _ _ _ _ _ hW5
                    obtain ⟨f0, -⟩ := txcell hF6 0 _ rfl)
    all_goals
      go_wp2_with (first
        | (go_at_call 94; refine (needs_at (x := kMod) h6 (by decide) HN.out).mono ?_; rintro e w7 ⟨rfl, h7, hC7⟩; have hF7 := hF6.but hC7 (by omega); have hR7 := hR6.but hC7 (by omega); have hU7 := hU6.trans hC7; have hG7 := hG6.but hC7 (by omega); have hV7 := RdTn.keep (Hi.but hC7 (fun k hk => by omega)) _ _ _ _ _ hV6; have hW7 := RdTn.keep (Hi.but hC7 (fun k hk => by omega)) _ _ _ _ _ hW6)
        | (go_at_call 115; refine (MC.out _ h7).mono ?_; rintro e w8 ⟨n, rfl, hn9, h8, hC8, hn⟩; have hF8 := hF7.but hC8 (by omega); have hR8 := hR7.but hC8 (by omega); have hU8 := hU7.trans hC8; have hG8 := hG7.but hC8 (by omega); have hV8 := RdTn.keep (Hi.but hC8 (fun k hk => by omega)) _ _ _ _ _ hV7; have hW8 := RdTn.keep (Hi.but hC8 (fun k hk => by omega)) _ _ _ _ _ hW7; obtain ⟨m2', q2⟩ := txcell hF8 2 _ rfl; have h9 := h8.other (B := w3.heap.size) (by omega) (by omega) 2 (.int .i64 (n : Nat)); have hR9 := hR8.other (X := w3.heap.size) (by omega) 2 (.int .i64 (n : Nat)); have hU9 := but_new (B := w3.heap.size) hU8 (by omega) 2 (.int .i64 (n : Nat)); have hG9 := hG8.other (X := w3.heap.size) (by omega) 2 (.int .i64 (n : Nat)); have hF9 : Rb (w8.setCell ⟨w3.heap.size, 2, none⟩ (.int .i64 (n : Nat))) w3.heap.size #[.int .i64 15, .string emp, .int .i64 (n : Nat), .slice (some ⟨w5.heap.size, 0, none⟩) 2 2, .slice none 0 0] 26 := tx_set hF8 2 (.int .i64 (n : Nat)); have hV9 := RdTn.keep ((Hi.refl _ w8).set (g := w3.heap.size) (fun k (hk : w.heap.size < k ∧ k ≠ w3.heap.size) => hk.2) 2 (.int .i64 (n : Nat))) _ _ _ _ _ hV8; have hW9 := RdTn.keep ((Hi.refl _ w8).set (g := w3.heap.size) (fun k (hk : w.heap.size < k ∧ k ≠ w3.heap.size) => hk.2) 2 (.int .i64 (n : Nat))) _ _ _ _ _ hW8; obtain ⟨p0, -⟩ := txcell hF9 0 _ rfl; obtain ⟨p1, -⟩ := txcell hF9 1 _ rfl; obtain ⟨p2, -⟩ := txcell hF9 2 _ rfl; obtain ⟨p3, -⟩ := txcell hF9 3 _ rfl; obtain ⟨p4, -⟩ := txcell hF9 4 _ rfl; obtain ⟨r0, g0⟩ := txcell hR9 0 _ rfl; obtain ⟨r1', g1⟩ := txcell hR9 1 _ rfl; obtain ⟨r2, g2⟩ := txcell hR9 2 _ rfl; obtain ⟨r3', g3⟩ := txcell hR9 3 _ rfl; obtain ⟨r4, g4⟩ := txcell hR9 4 _ rfl; have hRy := rb_five hR9 rfl (.int .i64 15) (.string emp) (.int .i64 (n : Nat)) (.slice (some ⟨w5.heap.size, 0, none⟩) 2 2) (.slice none 0 0); obtain ⟨k0, -⟩ := txcell hRy 0 _ rfl; obtain ⟨k1, -⟩ := txcell hRy 1 _ rfl; obtain ⟨k2, -⟩ := txcell hRy 2 _ rfl; obtain ⟨k3, -⟩ := txcell hRy 3 _ rfl; obtain ⟨k4, -⟩ := txcell hRy 4 _ rfl))
      exact bodyPost_ret (v := .agg #[.int .i64 15, .string emp, .int .i64 (n : Nat), .slice (some ⟨w5.heap.size, 0, none⟩) 2 2, .slice none 0 0]) (by simp [results, Tryz.results107, go_sem, k0, k1, k2, k3, k4]) rfl ⟨_, _, _, _, _, _, _, _, _, _, rfl, RdFn.low (fun k _ (hk : w.heap.size < k ∧ k ≠ w3.heap.size) => Nat.le_of_lt hk.1) _ _ _ _ _ _ (RdFn.keep (Hi.st5 (fun k (hk : w.heap.size < k ∧ k ≠ w3.heap.size) => by omega) _ (.int .i64 15) (.string emp) (.int .i64 (n : Nat)) (.slice (some ⟨w5.heap.size, 0, none⟩) 2 2) (.slice none 0 0)) _ _ _ _ _ _ (mkA2 hV9 hW9 hG9 ⟨by omega, by omega⟩ 15 n emp ⟨by decide, ⟨by omega, by omega⟩, sz_emp⟩)), by rw [HP.out]; exact h9.st5 (by omega) hWw (.int .i64 15) (.string emp) (.int .i64 (n : Nat)) (.slice (some ⟨w5.heap.size, 0, none⟩) 2 2) (.slice none 0 0), hU9.st5 (Nat.le_refl _) (.int .i64 15) (.string emp) (.int .i64 (n : Nat)) (.slice (some ⟨w5.heap.size, 0, none⟩) 2 2) (.slice none 0 0), HI.out a b n ha hb hn⟩
  · have RC : Hid (∀ w3, Ps X w3 r1.pos → Calls Tryz.prog 114 #[.pointer (some ⟨X.b, 0, none⟩)] w3 fun e w' => ∃ ro : Int, e = .returned (.int .i64 ro) ∧ I64 ro ∧ ((ro == 15) = false) ∧ (∀ a b, r1.is a → r3.is b → r.is (.mk ro emp 0 [a, b] [])) ∧ Ps X w' P2 ∧ Bux X.b w3 w') := fun w3 h3 => (relation_at h3 hi).mono fun e w' ⟨o, he, ho, hn, hp, hb⟩ => by
      refine ⟨o, he, ?_⟩
      cases hii : i with
      | none => rw [hn hii]; exact ⟨by decide, by decide, fun _ _ _ _ => hnone hii _, hp, hb⟩
      | some k =>
        have hk : k ≠ 6 := fun e => h6 (by rw [hii, e])
        obtain ⟨h7, rfl⟩ := ho k hii
        exact ⟨⟨by omega, by omega⟩, by rw [beq_eq_false_iff_ne]; omega, fun a b ha hb => (hno h6).2 a b k hii ha hb, hp, hb⟩
    have HP := mkHid (hno h6).1
    clear hr hr1 hA hi hr3 hno hnone hyes hf1 hf2 h6 T hP
    go_enter Tryz.func107, Tryz.ntmps107
    go_wp2_with (first
      | (go_at_call 23; refine (T1.out).mono ?_; rintro e w2 ⟨o, m, xs, lo, ln, lc, a, rfl, hV2, h2, hC2, ha⟩; have hR2 := (hR1.but hC2 (by omega)).keep (bal w2 (.cells #[.int .i64 o, .int .i64 m, .string xs, .slice lo ln lc] 43)); have hU2 := (hB1.trans hC2).trans (Bux.of (bal w2 (.cells #[.int .i64 o, .int .i64 m, .string xs, .slice lo ln lc] 43))); have hX2 := rb_new w2 #[.int .i64 o, .int .i64 m, .string xs, .slice lo ln lc] 43; have hs2 : w.heap.size < w2.heap.size := (Array.getElem?_eq_some_iff.1 (hR1.but hC2 (by omega))).1; have hb2 := h2.lt)
      | (go_at_call 114; refine (RC.out _ (h2.alloc _)).mono ?_; rintro e w3 ⟨ro, rfl, hro, hr15, hHI, h3, hC3⟩; have hX3 := hX2.but hC3 (by omega); have hR3 := (hR2.but hC3 (by omega)).keep (bal w3 (.cells #[.int .i64 ro, .string emp, .int .i64 0, .slice none 0 0, .slice none 0 0] 26)); have hU3 := (hU2.trans hC3).trans (Bux.of (bal w3 (.cells #[.int .i64 ro, .string emp, .int .i64 0, .slice none 0 0, .slice none 0 0] 26))); have hF3 := rb_new w3 #[.int .i64 ro, .string emp, .int .i64 0, .slice none 0 0, .slice none 0 0] 26; have hs3 := (Array.getElem?_eq_some_iff.1 hX3).1; have hb3 := h3.lt; have HI := mkHid hHI; clear hHI; have h3a := h3.alloc (.cells #[.int .i64 ro, .string emp, .int .i64 0, .slice none 0 0, .slice none 0 0] 26); have hX3a := hX3.keep (bal w3 (.cells #[.int .i64 ro, .string emp, .int .i64 0, .slice none 0 0, .slice none 0 0] 26)); have hV3 : RdTn (fun k => w.heap.size < k ∧ k ≠ w3.heap.size) (w3.alloc (.cells #[.int .i64 ro, .string emp, .int .i64 0, .slice none 0 0, .slice none 0 0] 26)) a (.int .i64 o) (.int .i64 m) (.string xs) (.slice lo ln lc) := RdTn.keep (Hi.of (bal w3 _)) _ _ _ _ _ (RdTn.low (P := fun k => w.heap.size < k) (fun k hk (hg : w.heap.size < k) => ⟨hg, by omega⟩) _ _ _ _ _ (RdTn.keep (Hi.but hC3 (fun k (hk : w.heap.size < k) => by omega)) _ _ _ _ _ (RdTn.keep (Hi.of (bal w2 _)) _ _ _ _ _ (RdTn.low (fun k hk (hg : _ ≤ k) => by simp only [World.size_alloc] at hg; omega) _ _ _ _ _ hV2)))); obtain ⟨x0, -⟩ := txcell hX3a 0 _ rfl; obtain ⟨x1, -⟩ := txcell hX3a 1 _ rfl; obtain ⟨x2, -⟩ := txcell hX3a 2 _ rfl; obtain ⟨x3, -⟩ := txcell hX3a 3 _ rfl))
    generalize hw4 : w3.alloc (.cells #[.int .i64 ro, .string emp, .int .i64 0, .slice none 0 0, .slice none 0 0] 26) = w4 at hR3 hU3 hF3 h3a hX3a hV3 x0 x1 x2 x3
    subst hw4
    have hs4 : (w3.alloc (.cells #[.int .i64 ro, .string emp, .int .i64 0, .slice none 0 0, .slice none 0 0] 26)).heap.size = w3.heap.size + 1 := World.size_alloc ..
    go_region_with (go_at_call 23
                    refine (T3.out _ ?_).mono ?_
                    exact h3a.drew
                    rintro e w5 ⟨o2, m2, xs2, lo2, ln2, lc2, b, rfl, hY5, h5, hC5, hb⟩
                    have hX5 := Rb.but (w := (w3.alloc (.cells #[.int .i64 ro, .string emp, .int .i64 0, .slice none 0 0, .slice none 0 0] 26)).drew) hX3a hC5 (by omega)
                    have hF5 := Rb.but (w := (w3.alloc (.cells #[.int .i64 ro, .string emp, .int .i64 0, .slice none 0 0, .slice none 0 0] 26)).drew) hF3 hC5 (by omega)
                    have hR5 := Rb.but (w := (w3.alloc (.cells #[.int .i64 ro, .string emp, .int .i64 0, .slice none 0 0, .slice none 0 0] 26)).drew) hR3 hC5 (by omega)
                    have hU5 := (but_drew hU3).trans hC5
                    have hs5 : (w3.alloc (.cells #[.int .i64 ro, .string emp, .int .i64 0, .slice none 0 0, .slice none 0 0] 26)).heap.size ≤ w5.heap.size := hC5.size
                    have hV5 := RdTn.keep (W := (w3.alloc (.cells #[.int .i64 ro, .string emp, .int .i64 0, .slice none 0 0, .slice none 0 0] 26)).drew) (Hi.but hC5 (fun k hk => by omega)) _ _ _ _ _ (RdTn.keep (Hi.of (Below.refl _ (w3.alloc (.cells #[.int .i64 ro, .string emp, .int .i64 0, .slice none 0 0, .slice none 0 0] 26))).drew) _ _ _ _ _ hV3)
                    have hW5 : RdTn (fun k => w.heap.size < k ∧ k ≠ w3.heap.size) w5 b (.int .i64 o2) (.int .i64 m2) (.string xs2) (.slice lo2 ln2 lc2) := RdTn.low (fun k _ (hk : (w3.alloc (.cells #[.int .i64 ro, .string emp, .int .i64 0, .slice none 0 0, .slice none 0 0] 26)).heap.size ≤ k) => ⟨by omega, by omega⟩) _ _ _ _ _ hY5
                    obtain ⟨z0, -⟩ := txcell hX5 0 _ rfl
                    obtain ⟨z1, -⟩ := txcell hX5 1 _ rfl
                    obtain ⟨z2, -⟩ := txcell hX5 2 _ rfl
                    obtain ⟨z3, -⟩ := txcell hX5 3 _ rfl
                    have hq3 : w3.heap.size < w5.heap.size := by omega
                    have hF5a := hF5.keep (bal w5 (.cells #[.int .i64 o, .int .i64 m, .string xs, .slice lo ln lc, .int .i64 o2, .int .i64 m2, .string xs2, .slice lo2 ln2 lc2] 43))
                    obtain ⟨y3, q3⟩ := txcell hF5a 3 _ rfl
                    have hz5 : (w5.setCell ⟨w3.heap.size, 3, none⟩ (.slice (some ⟨w5.heap.size, 0, none⟩) 2 2)).heap.size = w5.heap.size := by simp [World.setCell]
                    have h6 := (h5.other (B := w3.heap.size) (by omega) (by omega) 3 (.slice (some ⟨w5.heap.size, 0, none⟩) 2 2)).alloc (.cells #[.int .i64 o, .int .i64 m, .string xs, .slice lo ln lc, .int .i64 o2, .int .i64 m2, .string xs2, .slice lo2 ln2 lc2] 43)
                    have hR6 := (hR5.other (X := w3.heap.size) (by omega) 3 (.slice (some ⟨w5.heap.size, 0, none⟩) 2 2)).keep (bal _ (.cells #[.int .i64 o, .int .i64 m, .string xs, .slice lo ln lc, .int .i64 o2, .int .i64 m2, .string xs2, .slice lo2 ln2 lc2] 43))
                    have hU6 := (but_new (B := w3.heap.size) hU5 (by omega) 3 (.slice (some ⟨w5.heap.size, 0, none⟩) 2 2)).trans (Bux.of (bal _ (.cells #[.int .i64 o, .int .i64 m, .string xs, .slice lo ln lc, .int .i64 o2, .int .i64 m2, .string xs2, .slice lo2 ln2 lc2] 43)))
                    have hF6a : Rb (w5.setCell ⟨w3.heap.size, 3, none⟩ (.slice (some ⟨w5.heap.size, 0, none⟩) 2 2)) w3.heap.size #[.int .i64 ro, .string emp, .int .i64 0, .slice (some ⟨w5.heap.size, 0, none⟩) 2 2, .slice none 0 0] 26 := tx_set hF5 3 (.slice (some ⟨w5.heap.size, 0, none⟩) 2 2)
                    have hF6 := hF6a.keep (bal _ (.cells #[.int .i64 o, .int .i64 m, .string xs, .slice lo ln lc, .int .i64 o2, .int .i64 m2, .string xs2, .slice lo2 ln2 lc2] 43))
                    have hG6 := rb_new (w5.setCell ⟨w3.heap.size, 3, none⟩ (.slice (some ⟨w5.heap.size, 0, none⟩) 2 2)) #[.int .i64 o, .int .i64 m, .string xs, .slice lo ln lc, .int .i64 o2, .int .i64 m2, .string xs2, .slice lo2 ln2 lc2] 43
                    rw [hz5] at hG6
                    clear hz5
                    have hV6 := RdTn.keep (((Hi.refl _ w5).set (g := w3.heap.size) (fun k (hk : w.heap.size < k ∧ k ≠ w3.heap.size) => hk.2) 3 (.slice (some ⟨w5.heap.size, 0, none⟩) 2 2)).trans (Hi.of (bal _ (.cells #[.int .i64 o, .int .i64 m, .string xs, .slice lo ln lc, .int .i64 o2, .int .i64 m2, .string xs2, .slice lo2 ln2 lc2] 43)))) _ _ _ _ _ hV5
                    have hW6 := RdTn.keep (((Hi.refl _ w5).set (g := w3.heap.size) (fun k (hk : w.heap.size < k ∧ k ≠ w3.heap.size) => hk.2) 3 (.slice (some ⟨w5.heap.size, 0, none⟩) 2 2)).trans (Hi.of (bal _ (.cells #[.int .i64 o, .int .i64 m, .string xs, .slice lo ln lc, .int .i64 o2, .int .i64 m2, .string xs2, .slice lo2 ln2 lc2] 43)))) _ _ _ _ _ hW5
                    obtain ⟨f0, -⟩ := txcell hF6 0 _ rfl
                    obtain ⟨f1, -⟩ := txcell hF6 1 _ rfl
                    obtain ⟨f2, -⟩ := txcell hF6 2 _ rfl
                    obtain ⟨f3, -⟩ := txcell hF6 3 _ rfl
                    obtain ⟨f4, -⟩ := txcell hF6 4 _ rfl
                    obtain ⟨r0, g0⟩ := txcell hR6 0 _ rfl
                    obtain ⟨r1', g1⟩ := txcell hR6 1 _ rfl
                    obtain ⟨r2, g2⟩ := txcell hR6 2 _ rfl
                    obtain ⟨r3', g3⟩ := txcell hR6 3 _ rfl
                    obtain ⟨r4, g4⟩ := txcell hR6 4 _ rfl
                    have hRy := rb_five hR6 rfl (.int .i64 ro) (.string emp) (.int .i64 0) (.slice (some ⟨w5.heap.size, 0, none⟩) 2 2) (.slice none 0 0)
                    obtain ⟨k0, -⟩ := txcell hRy 0 _ rfl
                    obtain ⟨k1, -⟩ := txcell hRy 1 _ rfl
                    obtain ⟨k2, -⟩ := txcell hRy 2 _ rfl
                    obtain ⟨k3, -⟩ := txcell hRy 3 _ rfl
                    obtain ⟨k4, -⟩ := txcell hRy 4 _ rfl)
    all_goals
      go_wp2
      exact bodyPost_ret (v := .agg #[.int .i64 ro, .string emp, .int .i64 0, .slice (some ⟨w5.heap.size, 0, none⟩) 2 2, .slice none 0 0]) (by simp [results, Tryz.results107, go_sem, k0, k1, k2, k3, k4]) rfl ⟨_, _, _, _, _, _, _, _, _, _, rfl, RdFn.low (fun k _ (hk : w.heap.size < k ∧ k ≠ w3.heap.size) => Nat.le_of_lt hk.1) _ _ _ _ _ _ (RdFn.keep (Hi.st5 (fun k (hk : w.heap.size < k ∧ k ≠ w3.heap.size) => by omega) _ (.int .i64 ro) (.string emp) (.int .i64 0) (.slice (some ⟨w5.heap.size, 0, none⟩) 2 2) (.slice none 0 0)) _ _ _ _ _ _ (mkA2 hV6 hW6 hG6 ⟨by omega, by omega⟩ ro 0 emp ⟨hro, by decide, sz_emp⟩)), by rw [HP.out]; exact h6.st5 (by omega) hWw (.int .i64 ro) (.string emp) (.int .i64 0) (.slice (some ⟨w5.heap.size, 0, none⟩) 2 2) (.slice none 0 0), hU6.st5 (Nat.le_refl _) (.int .i64 ro) (.string emp) (.int .i64 0) (.slice (some ⟨w5.heap.size, 0, none⟩) 2 2) (.slice none 0 0), HI.out a b ha hb⟩
end Go.Proofs.YtabfhdmcljdjhaaGreatDoor.Gl
/- The landed reader: formulas: or. -/
namespace Go.Proofs.YtabfhdmcljdjhaaGreatDoor.Gl
open Go.RowKit
set_option linter.unusedVariables false
set_option linter.unusedSimpArgs false

set_option maxRecDepth 100000 in
set_option maxHeartbeats 4000000 in
theorem or_step {X : Rx} {N : Nat} (F : AndC X N) : OrC X N := by
  intro w P r h hP hr
  obtain ⟨r0, hr0, hl⟩ := gf_or hr
  have hbw := h.lt
  have hWw := h.below.size
  have hR1 := rb_new w zF 26
  have h1 := h.alloc (.cells zF 26)
  have hB1 : Bux X.b w (w.alloc (.cells zF 26)) := Bux.of (bal w _)
  have FC := mkHid (F _ _ _ h1 hP hr0)
  have hf0 := hr0.from hP
  have HL := mkHid hl
  have FF := mkHid F
  clear hr hl F hr0
  go_enter Tryz.func54, Tryz.ntmps54
  go_wp2_with (go_at_call 87; refine (FC.out).mono ?_; rintro e w2 ⟨o, xs, m, bo, n1, c1, lo, ln, lc, x, rfl, hV2, h2, hC2, hx⟩; have hR2 := hR1.but hC2 (by omega); have hs1 : w.heap.size < w2.heap.size := (Array.getElem?_eq_some_iff.1 hR2).1)
  have hX3 := rb_new w2 #[.int .i64 o, .string xs, .int .i64 m, .slice bo n1 c1, .slice lo ln lc] 26
  have h3 := h2.alloc (.cells #[.int .i64 o, .string xs, .int .i64 m, .slice bo n1 c1, .slice lo ln lc] 26)
  have hR3 := hR2.keep (bal w2 (.cells #[.int .i64 o, .string xs, .int .i64 m, .slice bo n1 c1, .slice lo ln lc] 26))
  have hU3 : Bux X.b w (w2.alloc (.cells #[.int .i64 o, .string xs, .int .i64 m, .slice bo n1 c1, .slice lo ln lc] 26)) := (hB1.trans hC2).trans (Bux.of (bal w2 _))
  have hV3 : RdFn (fun k => w.heap.size < k ∧ k ≠ w2.heap.size) (w2.alloc (.cells #[.int .i64 o, .string xs, .int .i64 m, .slice bo n1 c1, .slice lo ln lc] 26)) x (.int .i64 o) (.string xs) (.int .i64 m) (.slice bo n1 c1) (.slice lo ln lc) := by
    refine RdFn.keep (Hi.of (bal w2 _)) _ _ _ _ _ _ (RdFn.low (fun k hk (hg : _ ≤ k) => ?_) _ _ _ _ _ _ hV2)
    simp only [World.size_alloc] at hg
    exact ⟨by omega, by omega⟩
  have hlx := HL.out x hx
  go_loopw [] (fun wr => ∃ o xs m bo n1 c1 lo ln lc x P1, Rb wr w2.heap.size #[.int .i64 o, .string xs, .int .i64 m, .slice bo n1 c1, .slice lo ln lc] 26 ∧ RdFn (fun k => w.heap.size < k ∧ k ≠ w2.heap.size) wr x (.int .i64 o) (.string xs) (.int .i64 m) (.slice bo n1 c1) (.slice lo ln lc) ∧ Ps X wr P1 ∧ P1.from N ∧ GL X.ws 2 x P1 r ∧ Bux X.b w wr ∧ Rb wr w.heap.size zF 26) (fun wr => rdM X.b wr)
  case atStart => exact ⟨o, xs, m, bo, n1, c1, lo, ln, lc, x, r0.pos, hX3, hV3, h3, hf0, hlx, hU3, hR3⟩
  case round =>
    have hbX : X.b ≠ w2.heap.size := by have := h2.lt; omega
    have hRX : w.heap.size < w2.heap.size := by omega
    have hWX : X.W.heap.size ≤ w2.heap.size := by omega
    clear hX3 h3 hR3 hU3 hV3 h2 hC2 hR2 h1 hR1 hB1 hV2 hx hlx HL FC hf0
    obtain ⟨o, xs, m, bo, n1, c1, lo, ln, lc, x, P1, hX, hV, hS, hP1, hG, hU, hR⟩ := hrel
    have hXlt := (Array.getElem?_eq_some_iff.1 hX).1
    by_cases hst : P1.stands X.ws kOr
    · cases P1 with
      | bad y q => exact hst.elim
      | «at» p =>
        obtain ⟨r', hr', hl'⟩ := gl_or hG hst
        have hlt := IsS.lt hst
        have hf' := hr'.from (N := p + 1) (Nat.le_refl _)
        have TC := mkHid (takes_yes (x := kOr) hS hst)
        have FC := mkHid (fun w5 h5 => FF.out w5 (.at (p + 1)) r' h5 (Nat.le_succ_of_le hP1) hr')
        have HL := mkHid hl'
        have hf2 := mkHid (hr'.from (N := N) (Nat.le_succ_of_le hP1))
        clear hr' hl' hG FF
        go_wp2_with (go_at_call 31; refine (TC.out).mono ?_; rintro e w4 ⟨rfl, h4, hC4⟩; have hX4 := hX.but hC4 (fun e => hbX e.symm); have hR4 := hR.but hC4 (by omega); have hU4 := hU.trans hC4; have hV4 := RdFn.keep (Hi.but hC4 (fun k hk => by omega)) _ _ _ _ _ _ hV; obtain ⟨x0, -⟩ := txcell hX4 0 _ rfl; obtain ⟨x1, -⟩ := txcell hX4 1 _ rfl; obtain ⟨x2, -⟩ := txcell hX4 2 _ rfl; obtain ⟨x3, -⟩ := txcell hX4 3 _ rfl; obtain ⟨x4, -⟩ := txcell hX4 4 _ rfl)
        go_region_with (first
          | (go_at_call 87
             refine (FC.out _ ?_).mono ?_
             exact h4.drew
             rintro e w6 ⟨o2, xs2, m2, bo2, n12, c12, lo2, ln2, lc2, y, rfl, hY5, h6, hC6, hy⟩
             have hX6 := Rb.but (w := w4.drew) hX4 hC6 (fun e => hbX e.symm)
             have hR6 := Rb.but (w := w4.drew) hR4 hC6 (by omega)
             have hU6 := (but_drew hU4).trans hC6
             have hs6 : w2.heap.size < w4.heap.size := (Array.getElem?_eq_some_iff.1 hX4).1
             have hs7 : w4.heap.size ≤ w6.heap.size := hC6.size
             have hV6 := RdFn.keep (W := w4.drew) (Hi.but hC6 (fun k hk => by omega)) _ _ _ _ _ _ (RdFn.keep (Hi.of (Below.refl _ w4).drew) _ _ _ _ _ _ hV4)
             have hY6 : RdFn (fun k => w.heap.size < k ∧ k ≠ w2.heap.size) w6 y (.int .i64 o2) (.string xs2) (.int .i64 m2) (.slice bo2 n12 c12) (.slice lo2 ln2 lc2) := RdFn.low (fun k _ (hk : w4.heap.size ≤ k) => ⟨by omega, by omega⟩) _ _ _ _ _ _ hY5
             obtain ⟨z0, -⟩ := txcell hX6 0 _ rfl
             obtain ⟨z1, -⟩ := txcell hX6 1 _ rfl
             obtain ⟨z2, -⟩ := txcell hX6 2 _ rfl
             obtain ⟨z3, -⟩ := txcell hX6 3 _ rfl
             obtain ⟨z4, -⟩ := txcell hX6 4 _ rfl)
          | (go_at_call 32
             refine (connect_at _ _ _ _ _).mono ?_
             rintro e w7 ⟨rfl, hB7⟩
             have hX7 := (hX6.keep (bal w6 _)).keep hB7
             have hR7 := (hR6.keep (bal w6 _)).keep hB7
             have h7 := (h6.alloc _).keep hB7
             have hU7 := (hU6.trans (Bux.of (bal w6 _))).trans (Bux.of hB7)
             have hV7 := RdFn.keep (Hi.of hB7) _ _ _ _ _ _ (mkF2 hV6 hY6 rfl ⟨by omega, by omega⟩ 4 0 emp ⟨by decide, by decide, sz_emp⟩)
             have hX8 := rb_five hX7 rfl (.int .i64 4) (.string emp) (.int .i64 0) (.slice none 0 0) (.slice (some ⟨w6.heap.size, 0, none⟩) 2 2)
             have h8 := h7.st5 hbX hWX (.int .i64 4) (.string emp) (.int .i64 0) (.slice none 0 0) (.slice (some ⟨w6.heap.size, 0, none⟩) 2 2)
             have hU8 := hU7.st5 (Nat.le_of_lt hRX) (.int .i64 4) (.string emp) (.int .i64 0) (.slice none 0 0) (.slice (some ⟨w6.heap.size, 0, none⟩) 2 2)
             have hV8 := RdFn.keep (Hi.st5 (fun k (hk : w.heap.size < k ∧ k ≠ w2.heap.size) => hk.2) w7 (.int .i64 4) (.string emp) (.int .i64 0) (.slice none 0 0) (.slice (some ⟨w6.heap.size, 0, none⟩) 2 2)) _ _ _ _ _ _ hV7
             have hR8 := hR7.st5 (X := w2.heap.size) (by omega) (.int .i64 4) (.string emp) (.int .i64 0) (.slice none 0 0) (.slice (some ⟨w6.heap.size, 0, none⟩) 2 2)
             obtain ⟨u0, v0⟩ := txcell hX7 0 _ rfl
             obtain ⟨u1, v1⟩ := txcell hX7 1 _ rfl
             obtain ⟨u2, v2⟩ := txcell hX7 2 _ rfl
             obtain ⟨u3, v3⟩ := txcell hX7 3 _ rfl
             obtain ⟨u4, v4⟩ := txcell hX7 4 _ rfl))
        all_goals
          go_roundw
          case rel => exact ⟨_, _, _, _, _, _, _, ⟨4, emp, 0, none, 0, 0, some ⟨w6.heap.size, 0, none⟩, 2, 2, fPair 4 x y, r'.pos, hX8, hV8, h8, hf2.out, HL.out y hy, hU8, hR8⟩, rfl⟩
          case measure => exact rdM_lt hS hlt h8 hf'
    · obtain ⟨hq, hi⟩ := gl_orN hG hst
      have TC := mkHid (takes_no (x := kOr) hS (by decide) hst)
      clear FF hG hst
      go_wp2_with (go_at_call 31; refine (TC.out).mono ?_; rintro e w4 ⟨rfl, h4, hB4⟩; have hX4 := hX.keep hB4; have hR4 := hR.keep hB4; have hU4 := hU.trans (Bux.of hB4); have hV4 := RdFn.keep (Hi.of hB4) _ _ _ _ _ _ hV; obtain ⟨x0, -⟩ := txcell hX4 0 _ rfl; obtain ⟨x1, -⟩ := txcell hX4 1 _ rfl; obtain ⟨x2, -⟩ := txcell hX4 2 _ rfl; obtain ⟨x3, -⟩ := txcell hX4 3 _ rfl; obtain ⟨x4, -⟩ := txcell hX4 4 _ rfl; obtain ⟨r0, g0⟩ := txcell hR4 0 _ rfl; obtain ⟨r1, g1⟩ := txcell hR4 1 _ rfl; obtain ⟨r2, g2⟩ := txcell hR4 2 _ rfl; obtain ⟨r3, g3⟩ := txcell hR4 3 _ rfl; obtain ⟨r4, g4⟩ := txcell hR4 4 _ rfl; have hRy := rb_five hR4 rfl (.int .i64 o) (.string xs) (.int .i64 m) (.slice bo n1 c1) (.slice lo ln lc); obtain ⟨k0, -⟩ := txcell hRy 0 _ rfl; obtain ⟨k1, -⟩ := txcell hRy 1 _ rfl; obtain ⟨k2, -⟩ := txcell hRy 2 _ rfl; obtain ⟨k3, -⟩ := txcell hRy 3 _ rfl; obtain ⟨k4, -⟩ := txcell hRy 4 _ rfl)
      exact bodyPost_ret (v := .agg #[.int .i64 o, .string xs, .int .i64 m, .slice bo n1 c1, .slice lo ln lc]) (by simp [results, Tryz.results54, go_sem, k0, k1, k2, k3, k4]) rfl ⟨o, xs, m, bo, n1, c1, lo, ln, lc, x, rfl, RdFn.low (fun k _ (hk : w.heap.size < k ∧ k ≠ w2.heap.size) => Nat.le_of_lt hk.1) _ _ _ _ _ _ (RdFn.keep (Hi.st5 (fun k (hk : w.heap.size < k ∧ k ≠ w2.heap.size) => by omega) w4 (.int .i64 o) (.string xs) (.int .i64 m) (.slice bo n1 c1) (.slice lo ln lc)) _ _ _ _ _ _ hV4), by rw [hq]; exact h4.st5 (by omega) hWw (.int .i64 o) (.string xs) (.int .i64 m) (.slice bo n1 c1) (.slice lo ln lc), hU4.st5 (Nat.le_refl _) (.int .i64 o) (.string xs) (.int .i64 m) (.slice bo n1 c1) (.slice lo ln lc), hi⟩
end Go.Proofs.YtabfhdmcljdjhaaGreatDoor.Gl
