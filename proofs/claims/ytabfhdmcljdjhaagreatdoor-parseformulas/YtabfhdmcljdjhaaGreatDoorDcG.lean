/- The document's words: word. -/
import Derived.Test.YtabfhdmcljdjhaaGreatDoorPcK
import Derived.Test.YtabfhdmcljdjhaaGreatDoorPcT
namespace Go.Proofs.YtabfhdmcljdjhaaGreatDoor.Gl
open Go.RowKit
set_option linter.unusedVariables false
set_option linter.unusedSimpArgs false

theorem size_pos_ne {x : ByteArray} (h : x ≠ emp) : x.toList.isEmpty = false := by
  have h1 := ne_emp h
  cases hq : x.toList with
  | nil => rw [hq] at h1; cases h1
  | cons _ _ => rfl
theorem dig_run_step {s : ByteArray} {p q : Nat} (h : RunTo isDig s p q) (hq : q < s.size) (hd : isDig (bt s q) = true) : RunTo isDig s p (q + 1) := by
  have e := dig_one hd
  have := h.snoc hq (by rw [e]) (by rw [e]; exact hd)
  rwa [e] at this
theorem dig_run_ends {s : ByteArray} {q : Nat} (hd : isDig (bt s q) = false) : Ends isDig s q := fun h => by
  have := h.2.2
  rw [dig_bt, hd] at this
  cases this
theorem dig_all {s : ByteArray} {p q : Nat} (h : RunTo isDig s p q) : ∀ j, p ≤ j → j < q → isDig (bt s j) = true := by
  induction h with
  | nil => intro j h1 h2; omega
  | @cons p q a b c _ ih =>
    intro j h1 h2
    have hd : isDig (bt s p) = true := by rw [← dig_bt]; exact c
    have e := dig_one hd
    rw [e] at ih
    by_cases hj : j = p
    · rw [hj]; exact hd
    · exact ih j (by show p + 1 ≤ j; omega) h2
abbrev wz : Array Value := #[.int .i64 0, .string emp, .int .i64 0, .int .i64 0, .int .i64 0]
set_option maxRecDepth 100000 in
set_option maxHeartbeats 4000000 in
theorem rword_not (s : ByteArray) (p : Nat) (w : World) (hs : s.size ≤ 4096) (hp : p < s.size) (hok : (rdS s p).2.2 = false) :
    Calls Tryz.prog 36 #[.string s, .int .i64 (p : Nat)] w fun e w' => e = .returned (.tuple #[.agg #[.int .i64 0, .string emp, .int .i64 0, .int .i64 0, .int .i64 0], .int .i64 (p : Nat), .int .i64 50]) ∧ Below w.heap.size w w' := by
  have hb1 := bal w (.cells wz 87)
  have hR1 := rb_new w wz 87
  obtain ⟨hbd1, hbd2, -⟩ := rd_bd s p hp
  obtain ⟨⟨r, wd, ok⟩, hrd⟩ : ∃ t, rdS s p = t := ⟨_, rfl⟩
  have RD := mkHid (fun w => read_is s p r wd ok w (by omega) hp hrd)
  rw [hrd] at hbd1 hbd2 hok
  dsimp only at hbd1 hbd2 hok
  subst hok
  go_enter Tryz.func36, Tryz.ntmps36
  go_wp2_with (fail)
  refine (RD.out _).mono ?_
  rintro e w2 ⟨rfl, rfl⟩
  obtain ⟨k0, -⟩ := txcell hR1 0 _ rfl
  obtain ⟨k1, -⟩ := txcell hR1 1 _ rfl
  obtain ⟨k2, -⟩ := txcell hR1 2 _ rfl
  obtain ⟨k3, -⟩ := txcell hR1 3 _ rfl
  obtain ⟨k4, -⟩ := txcell hR1 4 _ rfl
  go_wp2
  exact bodyPost_ret (v := .tuple #[.agg #[.int .i64 0, .string emp, .int .i64 0, .int .i64 0, .int .i64 0], .int .i64 (p : Nat), .int .i64 50]) (by simp [results, Tryz.results36, go_sem]) rfl ⟨rfl, hb1⟩
set_option maxRecDepth 100000 in
set_option maxHeartbeats 4000000 in
theorem rword_res (s : ByteArray) (p : Nat) (w : World) (hs : s.size ≤ 4096) (hp : p < s.size) (hok : (rdS s p).2.2 = true) (hst : stB ((rdS s p).1 : Nat) = true) (hrs : rsB (s.extract p (run reN s p)) = true) :
    Calls Tryz.prog 36 #[.string s, .int .i64 (p : Nat)] w fun e w' => e = .returned (.tuple #[.agg #[.int .i64 2, .string (s.extract p (run reN s p)), .int .i64 0, .int .i64 0, .int .i64 0], .int .i64 (run reN s p : Nat), .int .i64 0]) ∧ Below w.heap.size w w' := by
  have hb1 := bal w (.cells wz 87)
  have hR1 := rb_new w wz 87
  obtain ⟨hbd1, hbd2, -⟩ := rd_bd s p hp
  obtain ⟨⟨r, wd, ok⟩, hrd⟩ : ∃ t, rdS s p = t := ⟨_, rfl⟩
  have RD := mkHid (fun w => read_is s p r wd ok w (by omega) hp hrd)
  rw [hrd] at hbd1 hbd2 hok hst
  dsimp only at hbd1 hbd2 hok hst
  subst hok
  have SC := mkHid (fun w => rstart_at (r : Nat) w)
  rw [hst] at SC
  have LC := mkHid (fun w => rletters_at s p w hs (Nat.le_of_lt hp))
  have hle := (run_run reN s p).le
  have hls := (run_run reN s p).le_size (Nat.le_of_lt hp)
  have hz := size_win s p (run reN s p) hls
  have RV := mkHid (fun w => rreserved_at (s.extract p (run reN s p)) w)
  rw [hrs] at RV
  clear hrs
  clear hrd hst
  generalize run reN s p = g at *
  go_enter Tryz.func36, Tryz.ntmps36
  go_wp2_with (fail)
  refine (RD.out _).mono ?_
  rintro e w2 ⟨rfl, rfl⟩
  go_wp2_with (fail)
  refine (SC.out _).mono ?_
  rintro e w3 ⟨rfl, hB3⟩
  have hR3 := hR1.keep hB3
  have hb3 := bt2 hb1 hB3
  go_wp2_with (fail)
  refine (LC.out _).mono ?_
  rintro e w4 ⟨rfl, hB4⟩
  have hR4 := hR3.keep hB4
  have hb4 := bt2 hb3 hB4
  go_wp2_with (fail)
  refine (RV.out _).mono ?_
  rintro e w5 ⟨rfl, hB5⟩
  have hR5 := hR4.keep hB5
  have hb5 := bt2 hb4 hB5
  obtain ⟨r0, g0⟩ := txcell hR5 0 _ rfl
  obtain ⟨r1, g1⟩ := txcell hR5 1 _ rfl
  obtain ⟨r2, g2⟩ := txcell hR5 2 _ rfl
  obtain ⟨r3, g3⟩ := txcell hR5 3 _ rfl
  obtain ⟨r4, g4⟩ := txcell hR5 4 _ rfl
  go_wp2
  have hRy := rb_five hR5 rfl (.int .i64 2) (.string (s.extract p g)) (.int .i64 0) (.int .i64 0) (.int .i64 0)
  obtain ⟨k0, -⟩ := txcell hRy 0 _ rfl
  obtain ⟨k1, -⟩ := txcell hRy 1 _ rfl
  obtain ⟨k2, -⟩ := txcell hRy 2 _ rfl
  obtain ⟨k3, -⟩ := txcell hRy 3 _ rfl
  obtain ⟨k4, -⟩ := txcell hRy 4 _ rfl
  exact bodyPost_ret (v := .tuple #[.agg #[.int .i64 2, .string (s.extract p g), .int .i64 0, .int .i64 0, .int .i64 0], .int .i64 (g : Nat), .int .i64 0]) (by simp [results, Tryz.results36, go_sem, k0, k1, k2, k3, k4]) rfl ⟨rfl, bel_st5 hb5 (Nat.le_refl _) (.int .i64 2) (.string (s.extract p g)) (.int .i64 0) (.int .i64 0) (.int .i64 0)⟩
set_option maxRecDepth 100000 in
set_option maxHeartbeats 4000000 in
theorem rword_long (s : ByteArray) (p : Nat) (w : World) (hs : s.size ≤ 4096) (hp : p < s.size) (hok : (rdS s p).2.2 = true) (hst : stB ((rdS s p).1 : Nat) = true) (hrs : rsB (s.extract p (run reN s p)) = false) (hlg : 16 < cnt (s.extract p (run reN s p))) :
    Calls Tryz.prog 36 #[.string s, .int .i64 (p : Nat)] w fun e w' => e = .returned (.tuple #[.agg #[.int .i64 0, .string emp, .int .i64 0, .int .i64 0, .int .i64 0], .int .i64 (p : Nat), .int .i64 6]) ∧ Below w.heap.size w w' := by
  have hb1 := bal w (.cells wz 87)
  have hR1 := rb_new w wz 87
  obtain ⟨hbd1, hbd2, -⟩ := rd_bd s p hp
  obtain ⟨⟨r, wd, ok⟩, hrd⟩ : ∃ t, rdS s p = t := ⟨_, rfl⟩
  have RD := mkHid (fun w => read_is s p r wd ok w (by omega) hp hrd)
  rw [hrd] at hbd1 hbd2 hok hst
  dsimp only at hbd1 hbd2 hok hst
  subst hok
  have SC := mkHid (fun w => rstart_at (r : Nat) w)
  rw [hst] at SC
  have LC := mkHid (fun w => rletters_at s p w hs (Nat.le_of_lt hp))
  have hle := (run_run reN s p).le
  have hls := (run_run reN s p).le_size (Nat.le_of_lt hp)
  have hz := size_win s p (run reN s p) hls
  have RV := mkHid (fun w => rreserved_at (s.extract p (run reN s p)) w)
  rw [hrs] at RV
  obtain ⟨n, hn⟩ : ∃ n, cnt (s.extract p (run reN s p)) = n := ⟨_, rfl⟩
  have CC := mkHid (fun w => rchars_at (s.extract p (run reN s p)) n w (by omega) (by rw [← hn]; exact cnt_cnt _))
  rw [hn] at hlg
  clear hn hrs
  clear hrd hst
  generalize run reN s p = g at *
  go_enter Tryz.func36, Tryz.ntmps36
  go_wp2_with (fail)
  refine (RD.out _).mono ?_
  rintro e w2 ⟨rfl, rfl⟩
  go_wp2_with (fail)
  refine (SC.out _).mono ?_
  rintro e w3 ⟨rfl, hB3⟩
  have hR3 := hR1.keep hB3
  have hb3 := bt2 hb1 hB3
  go_wp2_with (fail)
  refine (LC.out _).mono ?_
  rintro e w4 ⟨rfl, hB4⟩
  have hR4 := hR3.keep hB4
  have hb4 := bt2 hb3 hB4
  go_wp2_with (fail)
  refine (RV.out _).mono ?_
  rintro e w5 ⟨rfl, hB5⟩
  have hR5 := hR4.keep hB5
  have hb5 := bt2 hb4 hB5
  go_wp2_with (fail)
  refine (CC.out _).mono ?_
  rintro e w6 ⟨rfl, rfl⟩
  obtain ⟨r0, g0⟩ := txcell hR5 0 _ rfl
  obtain ⟨r1, g1⟩ := txcell hR5 1 _ rfl
  obtain ⟨r2, g2⟩ := txcell hR5 2 _ rfl
  obtain ⟨r3, g3⟩ := txcell hR5 3 _ rfl
  obtain ⟨r4, g4⟩ := txcell hR5 4 _ rfl
  go_wp2
  have hRy := rb_five hR5 rfl (.int .i64 0) (.string emp) (.int .i64 0) (.int .i64 0) (.int .i64 0)
  obtain ⟨k0, -⟩ := txcell hRy 0 _ rfl
  obtain ⟨k1, -⟩ := txcell hRy 1 _ rfl
  obtain ⟨k2, -⟩ := txcell hRy 2 _ rfl
  obtain ⟨k3, -⟩ := txcell hRy 3 _ rfl
  obtain ⟨k4, -⟩ := txcell hRy 4 _ rfl
  exact bodyPost_ret (v := .tuple #[.agg #[.int .i64 0, .string emp, .int .i64 0, .int .i64 0, .int .i64 0], .int .i64 (p : Nat), .int .i64 6]) (by simp [results, Tryz.results36, go_sem, k0, k1, k2, k3, k4]) rfl ⟨rfl, bel_st5 hb5 (Nat.le_refl _) (.int .i64 0) (.string emp) (.int .i64 0) (.int .i64 0) (.int .i64 0)⟩
set_option maxRecDepth 100000 in
set_option maxHeartbeats 4000000 in
theorem rword_name (s : ByteArray) (p : Nat) (w : World) (hs : s.size ≤ 4096) (hp : p < s.size) (hok : (rdS s p).2.2 = true) (hst : stB ((rdS s p).1 : Nat) = true) (hrs : rsB (s.extract p (run reN s p)) = false) (hlg : ¬ 16 < cnt (s.extract p (run reN s p))) :
    Calls Tryz.prog 36 #[.string s, .int .i64 (p : Nat)] w fun e w' => e = .returned (.tuple #[.agg #[.int .i64 0, .string (s.extract p (run reN s p)), .int .i64 0, .int .i64 0, .int .i64 0], .int .i64 (run reN s p : Nat), .int .i64 0]) ∧ Below w.heap.size w w' := by
  have hb1 := bal w (.cells wz 87)
  have hR1 := rb_new w wz 87
  obtain ⟨hbd1, hbd2, -⟩ := rd_bd s p hp
  obtain ⟨⟨r, wd, ok⟩, hrd⟩ : ∃ t, rdS s p = t := ⟨_, rfl⟩
  have RD := mkHid (fun w => read_is s p r wd ok w (by omega) hp hrd)
  rw [hrd] at hbd1 hbd2 hok hst
  dsimp only at hbd1 hbd2 hok hst
  subst hok
  have SC := mkHid (fun w => rstart_at (r : Nat) w)
  rw [hst] at SC
  have LC := mkHid (fun w => rletters_at s p w hs (Nat.le_of_lt hp))
  have hle := (run_run reN s p).le
  have hls := (run_run reN s p).le_size (Nat.le_of_lt hp)
  have hz := size_win s p (run reN s p) hls
  have RV := mkHid (fun w => rreserved_at (s.extract p (run reN s p)) w)
  rw [hrs] at RV
  obtain ⟨n, hn⟩ : ∃ n, cnt (s.extract p (run reN s p)) = n := ⟨_, rfl⟩
  have CC := mkHid (fun w => rchars_at (s.extract p (run reN s p)) n w (by omega) (by rw [← hn]; exact cnt_cnt _))
  rw [hn] at hlg
  clear hn hrs
  clear hrd hst
  generalize run reN s p = g at *
  go_enter Tryz.func36, Tryz.ntmps36
  go_wp2_with (fail)
  refine (RD.out _).mono ?_
  rintro e w2 ⟨rfl, rfl⟩
  go_wp2_with (fail)
  refine (SC.out _).mono ?_
  rintro e w3 ⟨rfl, hB3⟩
  have hR3 := hR1.keep hB3
  have hb3 := bt2 hb1 hB3
  go_wp2_with (fail)
  refine (LC.out _).mono ?_
  rintro e w4 ⟨rfl, hB4⟩
  have hR4 := hR3.keep hB4
  have hb4 := bt2 hb3 hB4
  go_wp2_with (fail)
  refine (RV.out _).mono ?_
  rintro e w5 ⟨rfl, hB5⟩
  have hR5 := hR4.keep hB5
  have hb5 := bt2 hb4 hB5
  have hlg2 : n ≤ 16 := by omega
  go_wp2_with (fail)
  refine (CC.out _).mono ?_
  rintro e w6 ⟨rfl, rfl⟩
  obtain ⟨r0, g0⟩ := txcell hR5 0 _ rfl
  obtain ⟨r1, g1⟩ := txcell hR5 1 _ rfl
  obtain ⟨r2, g2⟩ := txcell hR5 2 _ rfl
  obtain ⟨r3, g3⟩ := txcell hR5 3 _ rfl
  obtain ⟨r4, g4⟩ := txcell hR5 4 _ rfl
  go_wp2
  have hRy := rb_five hR5 rfl (.int .i64 0) (.string (s.extract p g)) (.int .i64 0) (.int .i64 0) (.int .i64 0)
  obtain ⟨k0, -⟩ := txcell hRy 0 _ rfl
  obtain ⟨k1, -⟩ := txcell hRy 1 _ rfl
  obtain ⟨k2, -⟩ := txcell hRy 2 _ rfl
  obtain ⟨k3, -⟩ := txcell hRy 3 _ rfl
  obtain ⟨k4, -⟩ := txcell hRy 4 _ rfl
  exact bodyPost_ret (v := .tuple #[.agg #[.int .i64 0, .string (s.extract p g), .int .i64 0, .int .i64 0, .int .i64 0], .int .i64 (g : Nat), .int .i64 0]) (by simp [results, Tryz.results36, go_sem, k0, k1, k2, k3, k4]) rfl ⟨rfl, bel_st5 hb5 (Nat.le_refl _) (.int .i64 0) (.string (s.extract p g)) (.int .i64 0) (.int .i64 0) (.int .i64 0)⟩
set_option maxRecDepth 100000 in
set_option maxHeartbeats 4000000 in
theorem rword_big (s : ByteArray) (p : Nat) (w : World) (hs : s.size ≤ 4096) (hp : p < s.size) (hok : (rdS s p).2.2 = true) (hst : stB ((rdS s p).1 : Nat) = false) (hdg : isDig (rdS s p).1 = true) (hv : 9223372036854775807 < valF s p (run isDig s p - p)) :
    Calls Tryz.prog 36 #[.string s, .int .i64 (p : Nat)] w fun e w' => e = .returned (.tuple #[.agg #[.int .i64 0, .string emp, .int .i64 0, .int .i64 0, .int .i64 0], .int .i64 (p : Nat), .int .i64 52]) ∧ Below w.heap.size w w' := by
  have hb1 := bal w (.cells wz 87)
  have hR1 := rb_new w wz 87
  obtain ⟨hbd1, hbd2, -⟩ := rd_bd s p hp
  obtain ⟨⟨r, wd, ok⟩, hrd⟩ : ∃ t, rdS s p = t := ⟨_, rfl⟩
  have RD := mkHid (fun w => read_is s p r wd ok w (by omega) hp hrd)
  rw [hrd] at hbd1 hbd2 hok hst hdg
  dsimp only at hbd1 hbd2 hok hst hdg
  subst hok
  have SC := mkHid (fun w => rstart_at (r : Nat) w)
  rw [hst] at SC
  have hd0 : isDig (bt s p) = true := by rw [← dig_bt, hrd]; exact hdg
  have h0 := bt_of s p hp
  have hx0 : s[p].toNat < 256 := s[p].toNat_lt
  have DC := mkHid (fun w => rdigit_at (s[p].toNat) w hx0)
  rw [← h0, hd0, h0] at DC
  have hgs := (run_run isDig s p).le_size (Nat.le_of_lt hp)
  have hgl := (run_run isDig s p).le
  have HG := mkHid (fun q (h1 : RunTo isDig s p q) (h2 : Ends isDig s q) => run_is h1 h2)
  have hzz := size_win s p (run isDig s p) hgs
  have hvv : valF (s.extract p (run isDig s p)) 0 (run isDig s p - p) = valF s p (run isDig s p - p) := valF_congr _ (fun j hj => by rw [bt_win s p _ (0 + j) hgs (by omega), Nat.zero_add])
  have hds : ∀ j, j < (s.extract p (run isDig s p)).size → isDig (bt (s.extract p (run isDig s p)) j) = true := fun j hj => by
    rw [bt_win s p _ j hgs (by omega)]
    exact dig_all (run_run isDig s p) _ (by omega) (by omega)
  have NC := mkHid (fun w => rnumber_at (s.extract p (run isDig s p)) 0 false w hds (by omega) (.inl ⟨by rw [hzz, hvv]; exact hv, rfl, rfl⟩))
  clear hv
  have HP : Hid (RunTo isDig s p p) := .nil p
  clear hrd hst hdg hd0 h0 hds hvv
  generalize run isDig s p = g at *
  go_enter Tryz.func36, Tryz.ntmps36
  go_wp2_with (fail)
  refine (RD.out _).mono ?_
  rintro e w2 ⟨rfl, rfl⟩
  go_wp2_with (fail)
  refine (SC.out _).mono ?_
  rintro e w3 ⟨rfl, hB3⟩
  have hR3 := hR1.keep hB3
  have hb3 := bt2 hb1 hB3
  go_wp2_with (fail)
  refine (DC.out _).mono ?_
  rintro e w4 ⟨rfl, rfl⟩
  obtain ⟨r0, -⟩ := txcell hR3 0 _ rfl
  go_wp2
  go_loopw [12] (fun a wr => ∃ q : Nat, a = .int .i64 (q : Nat) ∧ q ≤ s.size ∧ Hid (RunTo isDig s p q) ∧ wr = w3) (fun a _ => s.size - (intOf a).toNat)
  case atStart => exact ⟨p, rfl, Nat.le_of_lt hp, HP, rfl⟩
  case round =>
    obtain ⟨q, rfl, hq, hRn, rfl⟩ := hrel
    by_cases hlt : q < s.size
    · have hq0 := bt_of s q hlt
      have hqx : s[q].toNat < 256 := s[q].toNat_lt
      cases hqd : isDig (bt s q) with
      | true =>
        have D2 := mkHid (fun w => rdigit_at (s[q].toNat) w hqx)
        rw [← hq0, hqd, hq0] at D2
        have HN : Hid (RunTo isDig s p (q + 1)) := dig_run_step hRn.out hlt hqd
        clear hqd hq0 HP hRn
        go_wp2_with (fail)
        refine (D2.out _).mono ?_
        rintro e w5 ⟨rfl, rfl⟩
        go_wp2
        go_roundw
        case rel => exact ⟨q + 1, by go_num, by omega, HN, by first | trivial | rfl⟩
        case measure => simp [intOf]; omega
      | false =>
        have D2 := mkHid (fun w => rdigit_at (s[q].toNat) w hqx)
        rw [← hq0, hqd, hq0] at D2
        obtain rfl : g = q := HG.out q hRn.out (dig_run_ends hqd)
        clear hqd hq0 HP hRn HG
        go_wp2_with (fail)
        refine (D2.out _).mono ?_
        rintro e w5 ⟨rfl, rfl⟩
        go_wp2_with (fail)
        refine (NC.out _).mono ?_
        rintro e w6 ⟨rfl, rfl⟩
        obtain ⟨r0, g0⟩ := txcell hR3 0 _ rfl
        obtain ⟨r1, g1⟩ := txcell hR3 1 _ rfl
        obtain ⟨r2, g2⟩ := txcell hR3 2 _ rfl
        obtain ⟨r3, g3⟩ := txcell hR3 3 _ rfl
        obtain ⟨r4, g4⟩ := txcell hR3 4 _ rfl
        go_wp2
        have hRy := rb_five hR3 rfl (.int .i64 0) (.string emp) (.int .i64 0) (.int .i64 0) (.int .i64 0)
        obtain ⟨k0, -⟩ := txcell hRy 0 _ rfl
        obtain ⟨k1, -⟩ := txcell hRy 1 _ rfl
        obtain ⟨k2, -⟩ := txcell hRy 2 _ rfl
        obtain ⟨k3, -⟩ := txcell hRy 3 _ rfl
        obtain ⟨k4, -⟩ := txcell hRy 4 _ rfl
        exact bodyPost_ret (v := .tuple #[.agg #[.int .i64 0, .string emp, .int .i64 0, .int .i64 0, .int .i64 0], .int .i64 (p : Nat), .int .i64 52]) (by simp [results, Tryz.results36, go_sem, k0, k1, k2, k3, k4]) rfl ⟨rfl, bel_st5 hb3 (Nat.le_refl _) (.int .i64 0) (.string emp) (.int .i64 0) (.int .i64 0) (.int .i64 0)⟩
    · obtain rfl : g = q := HG.out q hRn.out (fun h => hlt h.1)
      clear HP hRn HG
      go_wp2_with (fail)
      refine (NC.out _).mono ?_
      rintro e w6 ⟨rfl, rfl⟩
      obtain ⟨r0, g0⟩ := txcell hR3 0 _ rfl
      obtain ⟨r1, g1⟩ := txcell hR3 1 _ rfl
      obtain ⟨r2, g2⟩ := txcell hR3 2 _ rfl
      obtain ⟨r3, g3⟩ := txcell hR3 3 _ rfl
      obtain ⟨r4, g4⟩ := txcell hR3 4 _ rfl
      go_wp2
      have hRy := rb_five hR3 rfl (.int .i64 0) (.string emp) (.int .i64 0) (.int .i64 0) (.int .i64 0)
      obtain ⟨k0, -⟩ := txcell hRy 0 _ rfl
      obtain ⟨k1, -⟩ := txcell hRy 1 _ rfl
      obtain ⟨k2, -⟩ := txcell hRy 2 _ rfl
      obtain ⟨k3, -⟩ := txcell hRy 3 _ rfl
      obtain ⟨k4, -⟩ := txcell hRy 4 _ rfl
      exact bodyPost_ret (v := .tuple #[.agg #[.int .i64 0, .string emp, .int .i64 0, .int .i64 0, .int .i64 0], .int .i64 (p : Nat), .int .i64 52]) (by simp [results, Tryz.results36, go_sem, k0, k1, k2, k3, k4]) rfl ⟨rfl, bel_st5 hb3 (Nat.le_refl _) (.int .i64 0) (.string emp) (.int .i64 0) (.int .i64 0) (.int .i64 0)⟩
set_option maxRecDepth 100000 in
set_option maxHeartbeats 4000000 in
theorem rword_num (s : ByteArray) (p : Nat) (w : World) (hs : s.size ≤ 4096) (hp : p < s.size) (hok : (rdS s p).2.2 = true) (hst : stB ((rdS s p).1 : Nat) = false) (hdg : isDig (rdS s p).1 = true) (hv : ¬ 9223372036854775807 < valF s p (run isDig s p - p)) :
    Calls Tryz.prog 36 #[.string s, .int .i64 (p : Nat)] w fun e w' => e = .returned (.tuple #[.agg #[.int .i64 1, .string emp, .int .i64 (valF s p (run isDig s p - p) : Nat), .int .i64 0, .int .i64 0], .int .i64 (run isDig s p : Nat), .int .i64 0]) ∧ Below w.heap.size w w' := by
  have hb1 := bal w (.cells wz 87)
  have hR1 := rb_new w wz 87
  obtain ⟨hbd1, hbd2, -⟩ := rd_bd s p hp
  obtain ⟨⟨r, wd, ok⟩, hrd⟩ : ∃ t, rdS s p = t := ⟨_, rfl⟩
  have RD := mkHid (fun w => read_is s p r wd ok w (by omega) hp hrd)
  rw [hrd] at hbd1 hbd2 hok hst hdg
  dsimp only at hbd1 hbd2 hok hst hdg
  subst hok
  have SC := mkHid (fun w => rstart_at (r : Nat) w)
  rw [hst] at SC
  have hd0 : isDig (bt s p) = true := by rw [← dig_bt, hrd]; exact hdg
  have h0 := bt_of s p hp
  have hx0 : s[p].toNat < 256 := s[p].toNat_lt
  have DC := mkHid (fun w => rdigit_at (s[p].toNat) w hx0)
  rw [← h0, hd0, h0] at DC
  have hgs := (run_run isDig s p).le_size (Nat.le_of_lt hp)
  have hgl := (run_run isDig s p).le
  have HG := mkHid (fun q (h1 : RunTo isDig s p q) (h2 : Ends isDig s q) => run_is h1 h2)
  have hzz := size_win s p (run isDig s p) hgs
  have hvv : valF (s.extract p (run isDig s p)) 0 (run isDig s p - p) = valF s p (run isDig s p - p) := valF_congr _ (fun j hj => by rw [bt_win s p _ (0 + j) hgs (by omega), Nat.zero_add])
  have hds : ∀ j, j < (s.extract p (run isDig s p)).size → isDig (bt (s.extract p (run isDig s p)) j) = true := fun j hj => by
    rw [bt_win s p _ j hgs (by omega)]
    exact dig_all (run_run isDig s p) _ (by omega) (by omega)
  have NC := mkHid (fun w => rnumber_at (s.extract p (run isDig s p)) (valF s p (run isDig s p - p)) true w hds (by omega) (.inr ⟨by rw [hzz, hvv]; exact hv, by rw [hzz, hvv], rfl⟩))
  generalize valF s p (run isDig s p - p) = u at *
  clear hv
  have HP : Hid (RunTo isDig s p p) := .nil p
  clear hrd hst hdg hd0 h0 hds hvv
  generalize run isDig s p = g at *
  go_enter Tryz.func36, Tryz.ntmps36
  go_wp2_with (fail)
  refine (RD.out _).mono ?_
  rintro e w2 ⟨rfl, rfl⟩
  go_wp2_with (fail)
  refine (SC.out _).mono ?_
  rintro e w3 ⟨rfl, hB3⟩
  have hR3 := hR1.keep hB3
  have hb3 := bt2 hb1 hB3
  go_wp2_with (fail)
  refine (DC.out _).mono ?_
  rintro e w4 ⟨rfl, rfl⟩
  obtain ⟨r0, -⟩ := txcell hR3 0 _ rfl
  go_wp2
  go_loopw [12] (fun a wr => ∃ q : Nat, a = .int .i64 (q : Nat) ∧ q ≤ s.size ∧ Hid (RunTo isDig s p q) ∧ wr = w3) (fun a _ => s.size - (intOf a).toNat)
  case atStart => exact ⟨p, rfl, Nat.le_of_lt hp, HP, rfl⟩
  case round =>
    obtain ⟨q, rfl, hq, hRn, rfl⟩ := hrel
    by_cases hlt : q < s.size
    · have hq0 := bt_of s q hlt
      have hqx : s[q].toNat < 256 := s[q].toNat_lt
      cases hqd : isDig (bt s q) with
      | true =>
        have D2 := mkHid (fun w => rdigit_at (s[q].toNat) w hqx)
        rw [← hq0, hqd, hq0] at D2
        have HN : Hid (RunTo isDig s p (q + 1)) := dig_run_step hRn.out hlt hqd
        clear hqd hq0 HP hRn
        go_wp2_with (fail)
        refine (D2.out _).mono ?_
        rintro e w5 ⟨rfl, rfl⟩
        go_wp2
        go_roundw
        case rel => exact ⟨q + 1, by go_num, by omega, HN, by first | trivial | rfl⟩
        case measure => simp [intOf]; omega
      | false =>
        have D2 := mkHid (fun w => rdigit_at (s[q].toNat) w hqx)
        rw [← hq0, hqd, hq0] at D2
        obtain rfl : g = q := HG.out q hRn.out (dig_run_ends hqd)
        clear hqd hq0 HP hRn HG
        go_wp2_with (fail)
        refine (D2.out _).mono ?_
        rintro e w5 ⟨rfl, rfl⟩
        go_wp2_with (fail)
        refine (NC.out _).mono ?_
        rintro e w6 ⟨rfl, rfl⟩
        obtain ⟨r0, g0⟩ := txcell hR3 0 _ rfl
        obtain ⟨r1, g1⟩ := txcell hR3 1 _ rfl
        obtain ⟨r2, g2⟩ := txcell hR3 2 _ rfl
        obtain ⟨r3, g3⟩ := txcell hR3 3 _ rfl
        obtain ⟨r4, g4⟩ := txcell hR3 4 _ rfl
        go_wp2
        have hRy := rb_five hR3 rfl (.int .i64 1) (.string emp) (.int .i64 (u : Nat)) (.int .i64 0) (.int .i64 0)
        obtain ⟨k0, -⟩ := txcell hRy 0 _ rfl
        obtain ⟨k1, -⟩ := txcell hRy 1 _ rfl
        obtain ⟨k2, -⟩ := txcell hRy 2 _ rfl
        obtain ⟨k3, -⟩ := txcell hRy 3 _ rfl
        obtain ⟨k4, -⟩ := txcell hRy 4 _ rfl
        exact bodyPost_ret (v := .tuple #[.agg #[.int .i64 1, .string emp, .int .i64 (u : Nat), .int .i64 0, .int .i64 0], .int .i64 (g : Nat), .int .i64 0]) (by simp [results, Tryz.results36, go_sem, k0, k1, k2, k3, k4]) rfl ⟨rfl, bel_st5 hb3 (Nat.le_refl _) (.int .i64 1) (.string emp) (.int .i64 (u : Nat)) (.int .i64 0) (.int .i64 0)⟩
    · obtain rfl : g = q := HG.out q hRn.out (fun h => hlt h.1)
      clear HP hRn HG
      go_wp2_with (fail)
      refine (NC.out _).mono ?_
      rintro e w6 ⟨rfl, rfl⟩
      obtain ⟨r0, g0⟩ := txcell hR3 0 _ rfl
      obtain ⟨r1, g1⟩ := txcell hR3 1 _ rfl
      obtain ⟨r2, g2⟩ := txcell hR3 2 _ rfl
      obtain ⟨r3, g3⟩ := txcell hR3 3 _ rfl
      obtain ⟨r4, g4⟩ := txcell hR3 4 _ rfl
      go_wp2
      have hRy := rb_five hR3 rfl (.int .i64 1) (.string emp) (.int .i64 (u : Nat)) (.int .i64 0) (.int .i64 0)
      obtain ⟨k0, -⟩ := txcell hRy 0 _ rfl
      obtain ⟨k1, -⟩ := txcell hRy 1 _ rfl
      obtain ⟨k2, -⟩ := txcell hRy 2 _ rfl
      obtain ⟨k3, -⟩ := txcell hRy 3 _ rfl
      obtain ⟨k4, -⟩ := txcell hRy 4 _ rfl
      exact bodyPost_ret (v := .tuple #[.agg #[.int .i64 1, .string emp, .int .i64 (u : Nat), .int .i64 0, .int .i64 0], .int .i64 (g : Nat), .int .i64 0]) (by simp [results, Tryz.results36, go_sem, k0, k1, k2, k3, k4]) rfl ⟨rfl, bel_st5 hb3 (Nat.le_refl _) (.int .i64 1) (.string emp) (.int .i64 (u : Nat)) (.int .i64 0) (.int .i64 0)⟩
set_option maxRecDepth 100000 in
set_option maxHeartbeats 4000000 in
theorem rword_plain (s : ByteArray) (p : Nat) (w : World) (hs : s.size ≤ 4096) (hp : p < s.size) (hok : (rdS s p).2.2 = true) (hst : stB ((rdS s p).1 : Nat) = false) (hdg : isDig (rdS s p).1 = false) (hpl : plB ((rdS s p).1 : Nat) ≠ emp) :
    Calls Tryz.prog 36 #[.string s, .int .i64 (p : Nat)] w fun e w' => e = .returned (.tuple #[.agg #[.int .i64 2, .string (plB ((rdS s p).1 : Nat)), .int .i64 0, .int .i64 0, .int .i64 0], .int .i64 (p + (rdS s p).2.1 : Nat), .int .i64 0]) ∧ Below w.heap.size w w' := by
  have hb1 := bal w (.cells wz 87)
  have hR1 := rb_new w wz 87
  obtain ⟨hbd1, hbd2, -⟩ := rd_bd s p hp
  obtain ⟨⟨r, wd, ok⟩, hrd⟩ : ∃ t, rdS s p = t := ⟨_, rfl⟩
  have RD := mkHid (fun w => read_is s p r wd ok w (by omega) hp hrd)
  rw [hrd] at hbd1 hbd2 hok hst hdg hpl
  dsimp only at hbd1 hbd2 hok hst hdg hpl
  subst hok
  have SC := mkHid (fun w => rstart_at (r : Nat) w)
  rw [hst] at SC
  have hd0 : isDig (bt s p) = false := by rw [← dig_bt, hrd]; exact hdg
  have h0 := bt_of s p hp
  have hx0 : s[p].toNat < 256 := s[p].toNat_lt
  have DC := mkHid (fun w => rdigit_at (s[p].toNat) w hx0)
  rw [← h0, hd0, h0] at DC
  have PC := mkHid (fun w => rplain_at (r : Nat) w)
  rw [hrd]
  dsimp only
  generalize plB (r : Nat) = t at *
  have hte := size_pos_ne hpl
  have hte2 := ne_emp hpl
  clear hrd hpl
  clear hst hdg hd0 h0
  go_enter Tryz.func36, Tryz.ntmps36
  go_wp2_with (fail)
  refine (RD.out _).mono ?_
  rintro e w2 ⟨rfl, rfl⟩
  go_wp2_with (fail)
  refine (SC.out _).mono ?_
  rintro e w3 ⟨rfl, hB3⟩
  have hR3 := hR1.keep hB3
  have hb3 := bt2 hb1 hB3
  go_wp2_with (fail)
  refine (DC.out _).mono ?_
  rintro e w4 ⟨rfl, rfl⟩
  go_wp2_with (fail)
  refine (PC.out _).mono ?_
  rintro e w5 ⟨rfl, hB5⟩
  have hR5 := hR3.keep hB5
  have hb5 := bt2 hb3 hB5
  obtain ⟨r0, g0⟩ := txcell hR5 0 _ rfl
  obtain ⟨r1, g1⟩ := txcell hR5 1 _ rfl
  obtain ⟨r2, g2⟩ := txcell hR5 2 _ rfl
  obtain ⟨r3, g3⟩ := txcell hR5 3 _ rfl
  obtain ⟨r4, g4⟩ := txcell hR5 4 _ rfl
  go_wp2
  have hRy := rb_five hR5 rfl (.int .i64 2) (.string t) (.int .i64 0) (.int .i64 0) (.int .i64 0)
  obtain ⟨k0, -⟩ := txcell hRy 0 _ rfl
  obtain ⟨k1, -⟩ := txcell hRy 1 _ rfl
  obtain ⟨k2, -⟩ := txcell hRy 2 _ rfl
  obtain ⟨k3, -⟩ := txcell hRy 3 _ rfl
  obtain ⟨k4, -⟩ := txcell hRy 4 _ rfl
  exact bodyPost_ret (v := .tuple #[.agg #[.int .i64 2, .string t, .int .i64 0, .int .i64 0, .int .i64 0], .int .i64 (p + wd : Nat), .int .i64 0]) (by simp [results, Tryz.results36, go_sem, k0, k1, k2, k3, k4]) rfl ⟨rfl, bel_st5 hb5 (Nat.le_refl _) (.int .i64 2) (.string t) (.int .i64 0) (.int .i64 0) (.int .i64 0)⟩
set_option maxRecDepth 100000 in
set_option maxHeartbeats 4000000 in
theorem rword_nosign (s : ByteArray) (p : Nat) (w : World) (hs : s.size ≤ 4096) (hp : p < s.size) (hok : (rdS s p).2.2 = true) (hst : stB ((rdS s p).1 : Nat) = false) (hdg : isDig (rdS s p).1 = false) (hpl : plB ((rdS s p).1 : Nat) = emp) (hsg : sgn s p = emp) :
    Calls Tryz.prog 36 #[.string s, .int .i64 (p : Nat)] w fun e w' => e = .returned (.tuple #[.agg #[.int .i64 0, .string emp, .int .i64 0, .int .i64 0, .int .i64 0], .int .i64 (p : Nat), .int .i64 51]) ∧ Below w.heap.size w w' := by
  have hb1 := bal w (.cells wz 87)
  have hR1 := rb_new w wz 87
  obtain ⟨hbd1, hbd2, -⟩ := rd_bd s p hp
  obtain ⟨⟨r, wd, ok⟩, hrd⟩ : ∃ t, rdS s p = t := ⟨_, rfl⟩
  have RD := mkHid (fun w => read_is s p r wd ok w (by omega) hp hrd)
  rw [hrd] at hbd1 hbd2 hok hst hdg hpl
  dsimp only at hbd1 hbd2 hok hst hdg hpl
  subst hok
  have SC := mkHid (fun w => rstart_at (r : Nat) w)
  rw [hst] at SC
  have hd0 : isDig (bt s p) = false := by rw [← dig_bt, hrd]; exact hdg
  have h0 := bt_of s p hp
  have hx0 : s[p].toNat < 256 := s[p].toNat_lt
  have DC := mkHid (fun w => rdigit_at (s[p].toNat) w hx0)
  rw [← h0, hd0, h0] at DC
  have PC := mkHid (fun w => rplain_at (r : Nat) w)
  rw [hpl] at PC
  have GC := mkHid (fun w => rsign_at s p w hs (Nat.le_of_lt hp))
  rw [hsg] at GC
  clear hrd hpl hsg
  clear hst hdg hd0 h0
  go_enter Tryz.func36, Tryz.ntmps36
  go_wp2_with (fail)
  refine (RD.out _).mono ?_
  rintro e w2 ⟨rfl, rfl⟩
  go_wp2_with (fail)
  refine (SC.out _).mono ?_
  rintro e w3 ⟨rfl, hB3⟩
  have hR3 := hR1.keep hB3
  have hb3 := bt2 hb1 hB3
  go_wp2_with (fail)
  refine (DC.out _).mono ?_
  rintro e w4 ⟨rfl, rfl⟩
  go_wp2_with (fail)
  refine (PC.out _).mono ?_
  rintro e w5 ⟨rfl, hB5⟩
  have hR5 := hR3.keep hB5
  have hb5 := bt2 hb3 hB5
  go_wp2_with (fail)
  refine (GC.out _).mono ?_
  rintro e w6 ⟨rfl, hB6⟩
  have hR6 := hR5.keep hB6
  have hb6 := bt2 hb5 hB6
  obtain ⟨r0, g0⟩ := txcell hR6 0 _ rfl
  obtain ⟨r1, g1⟩ := txcell hR6 1 _ rfl
  obtain ⟨r2, g2⟩ := txcell hR6 2 _ rfl
  obtain ⟨r3, g3⟩ := txcell hR6 3 _ rfl
  obtain ⟨r4, g4⟩ := txcell hR6 4 _ rfl
  go_wp2
  have hRy := rb_five hR6 rfl (.int .i64 0) (.string emp) (.int .i64 0) (.int .i64 0) (.int .i64 0)
  obtain ⟨k0, -⟩ := txcell hRy 0 _ rfl
  obtain ⟨k1, -⟩ := txcell hRy 1 _ rfl
  obtain ⟨k2, -⟩ := txcell hRy 2 _ rfl
  obtain ⟨k3, -⟩ := txcell hRy 3 _ rfl
  obtain ⟨k4, -⟩ := txcell hRy 4 _ rfl
  exact bodyPost_ret (v := .tuple #[.agg #[.int .i64 0, .string emp, .int .i64 0, .int .i64 0, .int .i64 0], .int .i64 (p : Nat), .int .i64 51]) (by simp [results, Tryz.results36, go_sem, k0, k1, k2, k3, k4]) rfl ⟨rfl, bel_st5 hb6 (Nat.le_refl _) (.int .i64 0) (.string emp) (.int .i64 0) (.int .i64 0) (.int .i64 0)⟩
set_option maxRecDepth 100000 in
set_option maxHeartbeats 4000000 in
theorem rword_sign (s : ByteArray) (p : Nat) (w : World) (hs : s.size ≤ 4096) (hp : p < s.size) (hok : (rdS s p).2.2 = true) (hst : stB ((rdS s p).1 : Nat) = false) (hdg : isDig (rdS s p).1 = false) (hpl : plB ((rdS s p).1 : Nat) = emp) (hsg : ¬ sgn s p = emp) :
    Calls Tryz.prog 36 #[.string s, .int .i64 (p : Nat)] w fun e w' => e = .returned (.tuple #[.agg #[.int .i64 2, .string (sgn s p), .int .i64 0, .int .i64 0, .int .i64 0], .int .i64 (p + (sgn s p).size : Nat), .int .i64 0]) ∧ Below w.heap.size w w' := by
  have hb1 := bal w (.cells wz 87)
  have hR1 := rb_new w wz 87
  obtain ⟨hbd1, hbd2, -⟩ := rd_bd s p hp
  obtain ⟨⟨r, wd, ok⟩, hrd⟩ : ∃ t, rdS s p = t := ⟨_, rfl⟩
  have RD := mkHid (fun w => read_is s p r wd ok w (by omega) hp hrd)
  rw [hrd] at hbd1 hbd2 hok hst hdg hpl
  dsimp only at hbd1 hbd2 hok hst hdg hpl
  subst hok
  have SC := mkHid (fun w => rstart_at (r : Nat) w)
  rw [hst] at SC
  have hd0 : isDig (bt s p) = false := by rw [← dig_bt, hrd]; exact hdg
  have h0 := bt_of s p hp
  have hx0 : s[p].toNat < 256 := s[p].toNat_lt
  have DC := mkHid (fun w => rdigit_at (s[p].toNat) w hx0)
  rw [← h0, hd0, h0] at DC
  have PC := mkHid (fun w => rplain_at (r : Nat) w)
  rw [hpl] at PC
  have GC := mkHid (fun w => rsign_at s p w hs (Nat.le_of_lt hp))
  have hts := sgn_small s p
  generalize sgn s p = t at *
  have hte := size_pos_ne hsg
  have hte2 := ne_emp hsg
  clear hrd hpl hsg
  clear hst hdg hd0 h0
  go_enter Tryz.func36, Tryz.ntmps36
  go_wp2_with (fail)
  refine (RD.out _).mono ?_
  rintro e w2 ⟨rfl, rfl⟩
  go_wp2_with (fail)
  refine (SC.out _).mono ?_
  rintro e w3 ⟨rfl, hB3⟩
  have hR3 := hR1.keep hB3
  have hb3 := bt2 hb1 hB3
  go_wp2_with (fail)
  refine (DC.out _).mono ?_
  rintro e w4 ⟨rfl, rfl⟩
  go_wp2_with (fail)
  refine (PC.out _).mono ?_
  rintro e w5 ⟨rfl, hB5⟩
  have hR5 := hR3.keep hB5
  have hb5 := bt2 hb3 hB5
  go_wp2_with (fail)
  refine (GC.out _).mono ?_
  rintro e w6 ⟨rfl, hB6⟩
  have hR6 := hR5.keep hB6
  have hb6 := bt2 hb5 hB6
  obtain ⟨r0, g0⟩ := txcell hR6 0 _ rfl
  obtain ⟨r1, g1⟩ := txcell hR6 1 _ rfl
  obtain ⟨r2, g2⟩ := txcell hR6 2 _ rfl
  obtain ⟨r3, g3⟩ := txcell hR6 3 _ rfl
  obtain ⟨r4, g4⟩ := txcell hR6 4 _ rfl
  go_wp2
  have hRy := rb_five hR6 rfl (.int .i64 2) (.string t) (.int .i64 0) (.int .i64 0) (.int .i64 0)
  obtain ⟨k0, -⟩ := txcell hRy 0 _ rfl
  obtain ⟨k1, -⟩ := txcell hRy 1 _ rfl
  obtain ⟨k2, -⟩ := txcell hRy 2 _ rfl
  obtain ⟨k3, -⟩ := txcell hRy 3 _ rfl
  obtain ⟨k4, -⟩ := txcell hRy 4 _ rfl
  exact bodyPost_ret (v := .tuple #[.agg #[.int .i64 2, .string t, .int .i64 0, .int .i64 0, .int .i64 0], .int .i64 (p + t.size : Nat), .int .i64 0]) (by simp [results, Tryz.results36, go_sem, k0, k1, k2, k3, k4]) rfl ⟨rfl, bel_st5 hb6 (Nat.le_refl _) (.int .i64 2) (.string t) (.int .i64 0) (.int .i64 0) (.int .i64 0)⟩
end Go.Proofs.YtabfhdmcljdjhaaGreatDoor.Gl
