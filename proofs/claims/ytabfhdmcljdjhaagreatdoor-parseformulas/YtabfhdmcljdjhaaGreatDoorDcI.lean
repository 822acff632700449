/- The document's words: Words. -/
import Derived.Test.YtabfhdmcljdjhaaGreatDoorDcG
import Derived.Test.YtabfhdmcljdjhaaGreatDoorLyA
namespace Go.Proofs.YtabfhdmcljdjhaaGreatDoor.Gl
open Go.RowKit
set_option linter.unusedVariables false
set_option linter.unusedSimpArgs false

theorem rwords_long (s : ByteArray) (w : World) (hs : 4096 < s.size) (h63 : s.size ≤ 9223372036854775807) :
    Calls Tryz.prog 17 #[.string s] w fun e w' => e = .returned (.tuple #[.slice none 0 0, .agg #[.int .i64 0, .int .i64 0], .int .i64 70]) ∧ Below w.heap.size w w' := by
  have h4 : (4096 : Int) < (s.size : Int) := by omega
  go_enter Tryz.func17, Tryz.ntmps17
  go_wp2
  refine bodyPost_ret (v := .tuple #[.slice none 0 0, .agg #[.int .i64 0, .int .i64 0], .int .i64 70]) (by simp [results, Tryz.results17, go_sem]) rfl ⟨rfl, ?_⟩
  repeat refine Below.setCell ?_ (by simp) _
  exact bta (Below.refl _ _) _
theorem rw_not {s : ByteArray} {p e : Nat} {w : World} (hs : s.size ≤ 4096) (hp : p < s.size) (h : tok s p = .bad e) :
    blB (bt s p : Nat) = false ∧ e ≠ 0 ∧ Calls Tryz.prog 36 #[.string s, .int .i64 (p : Nat)] w fun e' w' => e' = .returned (.tuple #[wordV 0 emp 0 0 0, .int .i64 (p : Nat), .int .i64 (e : Nat)]) ∧ Below w.heap.size w w' := by
  rcases tok_cases s p with ⟨_, e'⟩ | ⟨hbl, hh⟩
  · rw [h] at e'; cases e'
  refine ⟨by rw [← bl_bt]; exact hbl, tok_code h, ?_⟩
  rcases hh with ⟨hok, e'⟩ | ⟨hok, ⟨hst, ⟨_, e'⟩ | ⟨hr, hl, e'⟩ | ⟨_, _, e'⟩⟩ | ⟨hst, hdg, ⟨hv, e'⟩ | ⟨_, e'⟩⟩ | ⟨_, _, _, e'⟩ | ⟨hst, hdg, hpl, ⟨hsg, e'⟩ | ⟨_, e'⟩⟩⟩
  all_goals rw [h] at e'
  all_goals cases e'
  · exact rword_not s p w hs hp hok
  · exact rword_long s p w hs hp hok hst hr hl
  · exact rword_big s p w hs hp hok hst hdg hv
  · exact rword_nosign s p w hs hp hok hst hdg hpl hsg
theorem rw_word {s : ByteArray} {p k v q : Nat} {t : ByteArray} {w : World} (hs : s.size ≤ 4096) (hp : p < s.size) (h : tok s p = .word k t v q) :
    blB (bt s p : Nat) = false ∧ Calls Tryz.prog 36 #[.string s, .int .i64 (p : Nat)] w fun e' w' => e' = .returned (.tuple #[wordV k t v 0 0, .int .i64 (q : Nat), .int .i64 0]) ∧ Below w.heap.size w w' := by
  rcases tok_cases s p with ⟨_, e'⟩ | ⟨hbl, hh⟩
  · rw [h] at e'; cases e'
  refine ⟨by rw [← bl_bt]; exact hbl, ?_⟩
  rcases hh with ⟨hok, e'⟩ | ⟨hok, ⟨hst, ⟨hr, e'⟩ | ⟨_, _, e'⟩ | ⟨hr, hl, e'⟩⟩ | ⟨hst, hdg, ⟨_, e'⟩ | ⟨hv, e'⟩⟩ | ⟨hst, hdg, hpl, e'⟩ | ⟨hst, hdg, hpl, ⟨_, e'⟩ | ⟨hsg, e'⟩⟩⟩
  all_goals rw [h] at e'
  all_goals cases e'
  · exact rword_res s p w hs hp hok hst hr
  · exact rword_name s p w hs hp hok hst hr hl
  · exact rword_num s p w hs hp hok hst hdg hv
  · exact rword_plain s p w hs hp hok hst hdg hpl
  · exact rword_sign s p w hs hp hok hst hdg hpl hsg
set_option maxRecDepth 100000 in
set_option maxHeartbeats 4000000 in
theorem rwords_at (s : ByteArray) (a : List Wd) (f : Option (Nat × Nat)) (w : World) (hs : s.size ≤ 4096) (h : Lx s 0 a f) :
    Calls Tryz.prog 17 #[.string s] w fun e w' => ∃ (v : Value) (c p k : Nat) (ws : List FW), e = .returned (.tuple #[v, .agg #[.int .i64 (p : Nat), .int .i64 (k : Nat)], .int .i64 (c : Nat)]) ∧ Ans s a f c p k ws ∧ w'.ownsRow w.heap.size 87 5 v ws.length (ws.flatMap FW.cells) ∧ Below w.heap.size w w' := by
  have HL : Hid (a.length ≤ 4096) := Nat.le_trans h.len hs
  have h4 : ¬ (4096 : Int) < (s.size : Int) := by omega
  have HX := mkHid h
  have hR1 := rb_new w #[.int .i64 0, .int .i64 0] 29
  have hb1 := bal w (.cells #[.int .i64 0, .int .i64 0] 29)
  clear h
  go_enter Tryz.func17, Tryz.ntmps17
  go_wp2
  go_loopw [5, 6] (fun ws at' wr => ∃ (p : Nat) (A B : List Wd), at' = .int .i64 (p : Nat) ∧ p ≤ s.size ∧ Hid (A ++ B = a) ∧ Hid (Lx s p B f) ∧ wr.ownsRow (w.heap.size + 1) 87 5 ws A.length ((A.map (full s)).flatMap FW.cells) ∧ Rb wr w.heap.size #[.int .i64 0, .int .i64 0] 29 ∧ Below w.heap.size w wr) (fun _ at' _ => s.size - (intOf at').toNat)
  case atStart => exact ⟨0, [], a, rfl, Nat.zero_le _, rfl, HX, owns_nil _ _ _ _, hR1, hb1⟩
  case round =>
    clear HX hR1 hb1
    obtain ⟨p, A, B, rfl, hp, HA, HX, hO, hR, hB⟩ := hrel
    obtain ⟨a0, g0⟩ := txcell hR 0 _ rfl
    obtain ⟨a1, g1⟩ := txcell hR 1 _ rfl
    by_cases hlt : p < s.size
    · have h0 := bt_of s p hlt
      have hx0 : s[p].toNat < 256 := s[p].toNat_lt
      have BL := mkHid (fun w => rblank_at (s[p].toNat : Nat) w)
      rw [← h0] at BL
      have hX := HX.out
      clear HX
      cases hX with
      | done h => omega
      | blank _ ht hX =>
        have hbl : blB (bt s p : Nat) = true := by rw [← bl_bt]; exact (blank_bd hlt ht).2
        have HN := mkHid hX
        rw [hbl, h0] at BL
        clear hX ht hbl h0
        go_wp2_with (go_at_call 35; refine (BL.out _).mono ?_; rintro e w2 ⟨rfl, rfl⟩)
        go_roundw
        case rel => exact ⟨p + 1, A, B, by go_num, by omega, HA, HN, hO, hR, hB⟩
        case measure => simp [intOf]; omega
      | @bad _ c _ ht =>
        obtain ⟨hbl, hc0, -⟩ := rw_not (w := w) hs hlt ht
        have WC := mkHid (fun w => (rw_not (w := w) hs hlt ht).2.2)
        have AT := mkHid (fun w => rat_at s p w (by omega) hp)
        rw [hbl, h0] at BL
        obtain ⟨k, hk⟩ : ∃ k, cnt (s.extract 0 p) = k := ⟨_, rfl⟩
        have HANS : Hid (Ans s a (some (c, p)) c p k []) := .inr ⟨rfl, hk.symm, rfl⟩
        rw [hk] at AT
        have hc1 : ((c : Int) == 0) = false := by rw [beq_eq_false_iff_ne]; omega
        have hc2 : ¬ (c : Int) = 0 := by omega
        clear ht hbl h0 hk HA
        go_wp2_with (fail)
        refine (BL.out _).mono ?_
        rintro e w2 ⟨rfl, rfl⟩
        go_wp2_with (fail)
        refine (WC.out _).mono ?_
        rintro e w3 ⟨rfl, hB3⟩
        have hR4 := (hR.keep hB3).keep (bal w3 (.cells #[.int .i64 0, .string emp, .int .i64 0, .int .i64 0, .int .i64 0] 87))
        have hb4 := bta (bt2 hB hB3) (.cells #[.int .i64 0, .string emp, .int .i64 0, .int .i64 0, .int .i64 0] 87)
        clear a0 a1 g0 g1
        go_wp2_with (fail)
        refine (AT.out _).mono ?_
        rintro e w5 ⟨rfl, hB5⟩
        have hR5 := hR4.keep hB5
        have hb5 := bt2 hb4 hB5
        obtain ⟨a0, g0⟩ := txcell hR5 0 _ rfl
        obtain ⟨a1, g1⟩ := txcell hR5 1 _ rfl
        go_wp2
        have hRy := tx_set (tx_set hR5 0 (.int .i64 (p : Nat))) 1 (.int .i64 (k : Nat))
        obtain ⟨k0, -⟩ := txcell hRy 0 _ rfl
        obtain ⟨k1, -⟩ := txcell hRy 1 _ rfl
        exact bodyPost_ret (v := .tuple #[.slice none 0 0, .agg #[.int .i64 (p : Nat), .int .i64 (k : Nat)], .int .i64 (c : Nat)]) (by simp [results, Tryz.results17, go_sem, k0, k1]) rfl ⟨_, c, p, k, [], rfl, HANS.out, owns_nil _ _ _ _, (hb5.setCell (p := ⟨w.heap.size, 0, none⟩) (Nat.le_refl _) _).setCell (p := ⟨w.heap.size, 1, none⟩) (Nat.le_refl _) _⟩
      | @word _ kd tx nu q ws _ _ ht hX =>
        obtain ⟨hbl, -⟩ := rw_word (w := w) hs hlt ht
        have WC := mkHid (fun w => (rw_word (w := w) hs hlt ht).2)
        have AT := mkHid (fun w => rat_at s p w (by omega) hp)
        have hq := tok_to hlt ht
        rw [hbl, h0] at BL
        have HN := mkHid hX
        have HA2 : Hid ((A ++ [(⟨kd, tx, nu, p⟩ : Wd)]) ++ ws = a) := by show _ = _; rw [List.append_assoc]; exact HA.out
        have hAl : A.length ≤ 4096 := by have := HL.out; rw [← HA.out, List.length_append] at this; omega
        obtain ⟨k, hk⟩ : ∃ k, cnt (s.extract 0 p) = k := ⟨_, rfl⟩
        have HF : Hid (A.map (full s) ++ [(⟨kd, tx, nu, p, k⟩ : FW)] = (A ++ [(⟨kd, tx, nu, p⟩ : Wd)]).map (full s)) := by
          show _ = _
          rw [List.map_append, List.map_cons, List.map_nil, full, hk]
        rw [hk] at AT
        clear ht hbl h0 hk HA hX
        go_wp2_with (fail)
        refine (BL.out _).mono ?_
        rintro e w2 ⟨rfl, rfl⟩
        go_wp2_with (fail)
        refine (WC.out _).mono ?_
        rintro e w3 ⟨rfl, hB3⟩
        have hX4 := rb_new w3 #[.int .i64 (kd : Nat), .string tx, .int .i64 (nu : Nat), .int .i64 0, .int .i64 0] 87
        have hb4 := bta hB3 (.cells #[.int .i64 (kd : Nat), .string tx, .int .i64 (nu : Nat), .int .i64 0, .int .i64 0] 87)
        go_wp2_with (fail)
        refine (AT.out _).mono ?_
        rintro e w5 ⟨rfl, hB5⟩
        have hX5 := hX4.keep hB5
        have hb5 := bt2 hb4 hB5
        have hs3 := hB3.size
        have hs5 := hB5.size
        rw [World.size_alloc] at hs5
        obtain ⟨x0, f0⟩ := txcell hX5 0 _ rfl
        obtain ⟨x1, f1⟩ := txcell hX5 1 _ rfl
        obtain ⟨x2, f2⟩ := txcell hX5 2 _ rfl
        obtain ⟨x3, f3⟩ := txcell hX5 3 _ rfl
        obtain ⟨x4, f4⟩ := txcell hX5 4 _ rfl
        clear a0 a1 g0 g1
        have hb6 := (hb5.setCell (p := ⟨w3.heap.size, 3, none⟩) hs3 (.int .i64 (p : Nat))).setCell (p := ⟨w3.heap.size, 4, none⟩) hs3 (.int .i64 (k : Nat))
        have hb7 := bta hb6 (.cells #[.int .i64 (kd : Nat), .string tx, .int .i64 (nu : Nat), .int .i64 (p : Nat), .int .i64 (k : Nat)] 87)
        have HO := mkHid (own_keep hO hb7)
        have HRb := mkHid (hR.keep hb7)
        have hwr := (Array.getElem?_eq_some_iff.1 hR).1
        have HB7 := mkHid hb7
        clear hb6 hb7
        go_wp2_with (at_builtin; refine wp_pushW _ (w.heap.size + 1) rfl (.tmp 42) (.tmp 44) rfl _ A.length (A.map (full s)) rfl _ ⟨kd, tx, nu, p, k⟩ rfl HO.out (fun i hi => cell_new5 _ kd nu p k tx _ _ (by simp) i hi) (by simp; omega) hAl ?_; intro v' w8 hO8 hB8)
        go_roundw
        case rel =>
          rw [HF.out] at hO8
          refine ⟨q, A ++ [(⟨kd, tx, nu, p⟩ : Wd)], ws, by go_num, hq.2, HA2, HN, ?_, ?_, ?_⟩
          · rw [List.length_append]; exact hO8
          · exact (hB8.block _ (by omega)).trans HRb.out
          · exact (bt2 hB HB7.out).trans (hB8.mono (by omega))
        case measure => simp [intOf]; omega
    · obtain rfl : p = s.size := by omega
      have hB0 : f = none ∧ B = [] := by
        have hX := HX.out
        cases hX with
        | done _ => exact ⟨rfl, rfl⟩
        | blank h _ _ => omega
        | bad h _ => omega
        | word h _ _ => omega
      obtain ⟨rfl, rfl⟩ := hB0
      have HANS : Hid (Ans s a none 0 0 0 (A.map (full s))) := .inl ⟨rfl, rfl, rfl, rfl, by rw [← HA.out, List.append_nil]⟩
      clear HX HA
      go_wp2
      refine bodyPost_ret (v := .tuple #[_, .agg #[.int .i64 0, .int .i64 0], .int .i64 0]) (by simp [results, Tryz.results17, go_sem, a0, a1]; rfl) rfl ⟨_, 0, 0, 0, _, rfl, HANS.out, ?_, ?_⟩
      · rw [List.length_map]
        refine owns_turn hO (by omega) (fun g hg => ?_)
        first | rfl | (rw [Below.heap_setCell _ _ _ _ (by simp; omega), Below.heap_setCell _ _ _ _ (by simp; omega)])
      · repeat refine Below.setCell ?_ (by simp) _
        exact hB
end Go.Proofs.YtabfhdmcljdjhaaGreatDoor.Gl
/- The document's reader: ended. -/
namespace Go.Proofs.YtabfhdmcljdjhaaGreatDoor.Gl
open Go.RowKit
set_option linter.unusedVariables false
set_option linter.unusedSimpArgs false

theorem but_drewn {b : Nat} {w w' : World} (h : Bux b w w') (n : Nat) : Bux b w (w'.drewN n) := h.trans (Bux.of (below_drewn (Below.refl _ _) n))
theorem Ds.drewn {X : Rx} {w : World} {P : Pos} (h : Ds X w P) (n : Nat) : Ds X (w.drewN n) P := h.keep (below_drewn (Below.refl _ _) n)
theorem rb_drewn {w : World} {B : Nat} {vs : Array Value} {t : TypeId} (h : Rb w B vs t) (n : Nat) : Rb (w.drewN n) B vs t := h.keep (below_drewn (Below.refl _ _) n)
abbrev zP : Array Value := #[.int .i64 0, .int .i64 0]
theorem rb_two {w : World} {B : Nat} {vs : Array Value} {t : TypeId} (h : Rb w B vs t) (hs : vs.size = 2) (v0 v1 : Value) : Rb ((w.setCell ⟨B, 0, none⟩ v0).setCell ⟨B, 1, none⟩ v1) B #[v0, v1] t := by
  have h1 := tx_set (tx_set h 0 v0) 1 v1
  have e : (vs.setIfInBounds 0 v0).setIfInBounds 1 v1 = #[v0, v1] := by
    apply Array.ext
    · simp [hs]
    · intro i hi1 hi2
      simp only [Array.size_setIfInBounds, hs] at hi1
      rcases (show i = 0 ∨ i = 1 by omega) with rfl | rfl <;> simp [hs]
  rw [e] at h1
  exact h1
set_option maxRecDepth 100000 in
set_option maxHeartbeats 4000000 in
theorem dended_ok {X : Rx} {w : World} (h : Ds X w (.at X.n)) :
    Calls Tryz.prog 19 #[.pointer (some ⟨X.b, 0, none⟩), .string X.s] w fun e w' => e = .returned (.tuple #[.agg #[.int .i64 0, .int .i64 0], .int .i64 0]) ∧ Bux X.b w w' := by
  obtain ⟨W, s, ws, ao, n, cap, b⟩ := X
  dsimp only at h ⊢
  have hsm := h.small
  try dsimp only at hsm
  have h1 := h.alloc (.cells zP 29)
  have hR1 := rb_new w zP 29
  have hU1 : Bux b w (w.alloc (.cells zP 29)) := Bux.of (bal w _)
  have hbw := h.lt
  obtain ⟨T0, -⟩ := txcell h1.at'.2 0 _ rfl
  obtain ⟨T1, -⟩ := txcell h1.at'.2 1 _ rfl
  obtain ⟨T2, -⟩ := txcell h1.at'.2 2 _ rfl
  obtain ⟨r0, g0⟩ := txcell hR1 0 _ rfl
  obtain ⟨r1, g1⟩ := txcell hR1 1 _ rfl
  try dsimp only at T0 T1 T2
  go_enter Tryz.func19, Tryz.ntmps19
  go_wp2
  go_quiet (fail)
  go_wp2
  exact bodyPost_ret (v := .tuple #[.agg #[.int .i64 0, .int .i64 0], .int .i64 0]) (by simp [results, Tryz.results19, go_sem, r0, r1]) rfl ⟨rfl, but_new (but_new (but_drewn hU1 _) (Nat.le_refl _) _ _) (Nat.le_refl _) _ _⟩
set_option maxRecDepth 100000 in
set_option maxHeartbeats 4000000 in
theorem dended_bad {X : Rx} {w : World} {P : Pos} {y q : Nat} (h64 : X.s.size ≤ 9223372036854775807) (h : Ds X w P) (hy : P = .bad y q ∨ ∃ p, P = .at p ∧ p < X.n ∧ y = 71 ∧ q = p) :
    Calls Tryz.prog 19 #[.pointer (some ⟨X.b, 0, none⟩), .string X.s] w fun e w' => e = .returned (.tuple #[.agg #[.int .i64 (pcB X.s X.ws q : Nat), .int .i64 (pcC X.s X.ws q : Nat)], .int .i64 (y : Nat)]) ∧ Bux X.b w w' := by
  obtain ⟨W, s, ws, ao, n, cap, b⟩ := X
  dsimp only at h hy h64 ⊢
  have hlen : ws.length = n := h.words.len
  have hcap : n ≤ cap := h.words.rd.lecap
  have hcx : cap ≤ 9223372036854775807 := h.words.rd.lemax
  have hn4 : n ≤ 4096 := h.words.small
  have hbw : b < w.heap.size := h.lt
  have h1 := h.alloc (.cells zP 29)
  have hR1 := rb_new w zP 29
  have hU1 : Bux b w (w.alloc (.cells zP 29)) := Bux.of (bal w _)
  obtain ⟨p, y0, q0, hp, hT, hc⟩ : ∃ p y0 q0, p ≤ n ∧ TxIs (w.alloc (.cells zP 29)) b ao n cap p y0 q0 ∧ (p < n ∨ P = .bad y q) := by
    rcases hy with rfl | ⟨p, rfl, hp, rfl, rfl⟩
    · obtain ⟨_, p, hp, hT⟩ := h1.at'
      exact ⟨p, y, q, hp, hT, .inr rfl⟩
    · exact ⟨q, 0, 0, Nat.le_of_lt hp, h1.at'.2, .inl hp⟩
  have hrf : P.ref 71 = .bad y q := by
    rcases hy with rfl | ⟨p, rfl, _, rfl, rfl⟩
    · rfl
    · rfl
  obtain ⟨zb, hzb⟩ : ∃ m, pcB s ws q = m := ⟨_, rfl⟩
  obtain ⟨c, hcc⟩ : ∃ m, pcC s ws q = m := ⟨_, rfl⟩
  rw [hzb, hcc]
  obtain ⟨T0, -⟩ := txcell hT 0 _ rfl
  obtain ⟨T1, -⟩ := txcell hT 1 _ rfl
  by_cases hpn : p < n
  · go_enter Tryz.func19, Tryz.ntmps19
    go_wp2
    go_quiet (fail)
    go_wp2_with (fail)
    refine (dfail_at (h1.drewn _) 71 (by decide)).mono ?_
    rintro e w3 ⟨rfl, h3, hU3⟩
    rw [hrf] at h3
    replace hU3 : Bux b _ w3 := hU3
    have hU4 := (but_drewn hU1 _).trans hU3
    have hR4 := (rb_drewn hR1 _).but hU3 (by omega)
    clear T0 T1 hT
    obtain ⟨hy0, p3, hp3, hT3⟩ := h3.at'
    have hy1 : ((y : Int) == 0) = false := by rw [beq_eq_false_iff_ne]; omega
    have hy2 : ¬ (y : Int) = 0 := by omega
    obtain ⟨T0, -⟩ := txcell hT3 0 _ rfl
    obtain ⟨T2, -⟩ := txcell hT3 2 _ rfl
    obtain ⟨T3, -⟩ := txcell hT3 3 _ rfl
    obtain ⟨r0, g0⟩ := txcell hR4 0 _ rfl
    obtain ⟨r1, g1⟩ := txcell hR4 1 _ rfl
    try dsimp only at T0 T2 T3
    by_cases hqn : q < n
    · go_wp2
      go_quiet (fail)
      have h5 := h3.drewn nq
      have hU5 := but_drewn hU4 nq
      have hR5 := rb_drewn hR4 nq
      clear T0 T2 T3 r0 g0 r1 g1 hT3
      generalize w3.drewN nq = w5 at h5 hU5 hR5 ⊢
      obtain ⟨_, p5, _, hT5⟩ := h5.at'
      obtain ⟨T0, -⟩ := txcell hT5 0 _ rfl
      obtain ⟨T2, -⟩ := txcell hT5 2 _ rfl
      obtain ⟨T3, -⟩ := txcell hT5 3 _ rfl
      obtain ⟨r0, g0⟩ := txcell hR5 0 _ rfl
      obtain ⟨r1, g1⟩ := txcell hR5 1 _ rfl
      obtain ⟨z, g, off, hz, hao, hg, -, -, -, c3, c4⟩ := h5.words.get h5.below hqn
      try dsimp only at T0 T2 T3
      try dsimp only at hz hao c3 c4
      have e1 : z.byte = zb := by rw [← hzb]; simp [pcB, hz]
      have e2 : cnt (s.extract 0 z.byte) = c := by rw [← hcc]; simp [pcC, hz]
      rw [e2] at c4
      rw [e1] at c3
      rw [hao] at T0
      have hRy := rb_two hR5 rfl (.int .i64 (zb : Nat)) (.int .i64 (c : Nat))
      have hUz := but_new (but_new hU5 (Nat.le_refl _) 0 (.int .i64 (zb : Nat))) (Nat.le_refl _) 1 (.int .i64 (c : Nat))
      obtain ⟨k0, -⟩ := txcell hRy 0 _ rfl
      obtain ⟨k1, -⟩ := txcell hRy 1 _ rfl
      clear hzb hcc e1 e2 hz
      go_wp2
      go_region
      all_goals
        go_wp2
        exact bodyPost_ret (v := .tuple #[.agg #[.int .i64 (zb : Nat), .int .i64 (c : Nat)], .int .i64 (y : Nat)]) (by simp [results, Tryz.results19, go_sem, k0, k1]) rfl ⟨rfl, but_drew hUz⟩
    · have hno : ws[q]? = none := List.getElem?_eq_none (by omega)
      have e1 : s.size = zb := by rw [← hzb]; simp [pcB, hno]
      have e2 : cnt s = c := by rw [← hcc]; simp [pcC, hno]
      have AT := mkHid (fun w => rat_at s s.size w h64 (Nat.le_refl _))
      rw [extract_all, e2] at AT
      have E1 := mkHid e1
      clear hzb hcc e1 e2 hno
      go_wp2
      go_quiet (fail)
      have h5 := h3.drewn nq
      have hU5 := but_drewn hU4 nq
      have hR5 := rb_drewn hR4 nq
      clear T0 T2 T3 r0 g0 r1 g1 hT3
      generalize w3.drewN nq = w5 at h5 hU5 hR5 ⊢
      obtain ⟨_, p5, _, hT5⟩ := h5.at'
      obtain ⟨T2, -⟩ := txcell hT5 2 _ rfl
      try dsimp only at T2
      go_wp2
      go_region_with (go_at_call 37; refine (AT.out _).mono ?_; rintro e w6 ⟨rfl, hB6⟩; have h6 := Ds.keep (w := w5.drew) h5.drew hB6; have hU6 := (but_drew hU5).trans (Bux.of hB6); have hR6 := Rb.keep (w := w5.drew) hR5 hB6; obtain ⟨_, p6, _, hT6⟩ := h6.at'; obtain ⟨t2, -⟩ := txcell hT6 2 _ rfl; try dsimp only at t2; obtain ⟨a0, b0⟩ := txcell hR6 0 _ rfl; obtain ⟨a1, b1⟩ := txcell hR6 1 _ rfl)
      all_goals
        go_wp2
        have hRy := rb_two hR6 rfl (.int .i64 (s.size : Nat)) (.int .i64 (c : Nat))
        have hUz := but_new (but_new hU6 (Nat.le_refl _) 0 (.int .i64 (s.size : Nat))) (Nat.le_refl _) 1 (.int .i64 (c : Nat))
        obtain ⟨k0, -⟩ := txcell hRy 0 _ rfl
        obtain ⟨k1, -⟩ := txcell hRy 1 _ rfl
        exact bodyPost_ret (v := .tuple #[.agg #[.int .i64 (s.size : Nat), .int .i64 (c : Nat)], .int .i64 (y : Nat)]) (by simp [results, Tryz.results19, go_sem, k0, k1]) rfl ⟨by rw [E1.out], hUz⟩
  · obtain rfl : P = .bad y q := hc.resolve_left hpn
    go_enter Tryz.func19, Tryz.ntmps19
    go_wp2
    go_quiet (fail)
    have h3 := h1.drewn nq
    have hU4 := but_drewn hU1 nq
    have hR4 := rb_drewn hR1 nq
    generalize (w.alloc (.cells zP 29)).drewN nq = w3 at h3 hU4 hR4 ⊢
    clear T0 T1 hT
    obtain ⟨hy0, p3, hp3, hT3⟩ := h3.at'
    have hy1 : ((y : Int) == 0) = false := by rw [beq_eq_false_iff_ne]; omega
    have hy2 : ¬ (y : Int) = 0 := by omega
    obtain ⟨T0, -⟩ := txcell hT3 0 _ rfl
    obtain ⟨T2, -⟩ := txcell hT3 2 _ rfl
    obtain ⟨T3, -⟩ := txcell hT3 3 _ rfl
    obtain ⟨r0, g0⟩ := txcell hR4 0 _ rfl
    obtain ⟨r1, g1⟩ := txcell hR4 1 _ rfl
    try dsimp only at T0 T2 T3
    by_cases hqn : q < n
    · go_wp2
      go_quiet (fail)
      have h5 := h3.drewn nq
      have hU5 := but_drewn hU4 nq
      have hR5 := rb_drewn hR4 nq
      clear T0 T2 T3 r0 g0 r1 g1 hT3
      generalize w3.drewN nq = w5 at h5 hU5 hR5 ⊢
      obtain ⟨_, p5, _, hT5⟩ := h5.at'
      obtain ⟨T0, -⟩ := txcell hT5 0 _ rfl
      obtain ⟨T2, -⟩ := txcell hT5 2 _ rfl
      obtain ⟨T3, -⟩ := txcell hT5 3 _ rfl
      obtain ⟨r0, g0⟩ := txcell hR5 0 _ rfl
      obtain ⟨r1, g1⟩ := txcell hR5 1 _ rfl
      obtain ⟨z, g, off, hz, hao, hg, -, -, -, c3, c4⟩ := h5.words.get h5.below hqn
      try dsimp only at T0 T2 T3
      try dsimp only at hz hao c3 c4
      have e1 : z.byte = zb := by rw [← hzb]; simp [pcB, hz]
      have e2 : cnt (s.extract 0 z.byte) = c := by rw [← hcc]; simp [pcC, hz]
      rw [e2] at c4
      rw [e1] at c3
      rw [hao] at T0
      have hRy := rb_two hR5 rfl (.int .i64 (zb : Nat)) (.int .i64 (c : Nat))
      have hUz := but_new (but_new hU5 (Nat.le_refl _) 0 (.int .i64 (zb : Nat))) (Nat.le_refl _) 1 (.int .i64 (c : Nat))
      obtain ⟨k0, -⟩ := txcell hRy 0 _ rfl
      obtain ⟨k1, -⟩ := txcell hRy 1 _ rfl
      clear hzb hcc e1 e2 hz
      go_wp2
      go_region
      all_goals
        go_wp2
        exact bodyPost_ret (v := .tuple #[.agg #[.int .i64 (zb : Nat), .int .i64 (c : Nat)], .int .i64 (y : Nat)]) (by simp [results, Tryz.results19, go_sem, k0, k1]) rfl ⟨rfl, but_drew hUz⟩
    · have hno : ws[q]? = none := List.getElem?_eq_none (by omega)
      have e1 : s.size = zb := by rw [← hzb]; simp [pcB, hno]
      have e2 : cnt s = c := by rw [← hcc]; simp [pcC, hno]
      have AT := mkHid (fun w => rat_at s s.size w h64 (Nat.le_refl _))
      rw [extract_all, e2] at AT
      have E1 := mkHid e1
      clear hzb hcc e1 e2 hno
      go_wp2
      go_quiet (fail)
      have h5 := h3.drewn nq
      have hU5 := but_drewn hU4 nq
      have hR5 := rb_drewn hR4 nq
      clear T0 T2 T3 r0 g0 r1 g1 hT3
      generalize w3.drewN nq = w5 at h5 hU5 hR5 ⊢
      obtain ⟨_, p5, _, hT5⟩ := h5.at'
      obtain ⟨T2, -⟩ := txcell hT5 2 _ rfl
      try dsimp only at T2
      go_wp2
      go_region_with (go_at_call 37; refine (AT.out _).mono ?_; rintro e w6 ⟨rfl, hB6⟩; have h6 := Ds.keep (w := w5.drew) h5.drew hB6; have hU6 := (but_drew hU5).trans (Bux.of hB6); have hR6 := Rb.keep (w := w5.drew) hR5 hB6; obtain ⟨_, p6, _, hT6⟩ := h6.at'; obtain ⟨t2, -⟩ := txcell hT6 2 _ rfl; try dsimp only at t2; obtain ⟨a0, b0⟩ := txcell hR6 0 _ rfl; obtain ⟨a1, b1⟩ := txcell hR6 1 _ rfl)
      all_goals
        go_wp2
        have hRy := rb_two hR6 rfl (.int .i64 (s.size : Nat)) (.int .i64 (c : Nat))
        have hUz := but_new (but_new hU6 (Nat.le_refl _) 0 (.int .i64 (s.size : Nat))) (Nat.le_refl _) 1 (.int .i64 (c : Nat))
        obtain ⟨k0, -⟩ := txcell hRy 0 _ rfl
        obtain ⟨k1, -⟩ := txcell hRy 1 _ rfl
        exact bodyPost_ret (v := .tuple #[.agg #[.int .i64 (s.size : Nat), .int .i64 (c : Nat)], .int .i64 (y : Nat)]) (by simp [results, Tryz.results19, go_sem, k0, k1]) rfl ⟨by rw [E1.out], hUz⟩
end Go.Proofs.YtabfhdmcljdjhaaGreatDoor.Gl
