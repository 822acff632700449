/- The walk of LexPlaces where no fault comes. -/
import Derived.Test.YthimmohbedaimaaDoorLxM
namespace Go.Proofs.YthimmohbedaimaaDoor.Gl
open Go.RowKit
set_option linter.unusedVariables false

theorem wr_bt (s : ByteArray) (k : Nat) (h : k < s.size) : wrap32 ((s[k].toNat : Nat) : Int) = ((bt s k : Nat) : Int) := by
  rw [bt_of s k h]
  have := s[k].toNat_lt
  unfold wrap32
  omega
set_option maxRecDepth 100000 in
set_option maxHeartbeats 2000000 in
theorem places_good (C : LexC) (s : ByteArray) (w : World) (hS : Sg w) (a : List Wd) (hs : s.size ≤ 4096) (h : Lx s 0 a none) :
    Calls Tryd.prog 5 #[.string s] w fun e w' => e = .returned (.bool true) ∧ Below w.heap.size w w' := by
  have LA := fun w hS => C.good s a w hS hs h
  have FX : Hid (∀ w, Sg w → Calls Tryd.prog 7 #[] w fun e w' => e = .returned (.bool true) ∧ Below w.heap.size w w') := fun w hS => lfixed_at C w hS
  have HB : Hid (∀ i (hi : i < a.length), a[i].byte < s.size ∧ blB (bt s a[i].byte : Nat) = false) := fun i hi => by
    obtain ⟨_, h1, h2⟩ := h.bd.1 a[i] (List.getElem_mem hi)
    exact ⟨h1, bl_byte h2⟩
  have HR : Hid (∀ i j (hi : i < a.length) (hj : j < a.length), i < j → a[i].byte < a[j].byte) := fun i j hi hj hij => List.pairwise_iff_getElem.1 h.rise.2 i j hi hj hij
  have HA : Hid (∀ i, i < s.size → (∀ h0 : 0 < a.length, i < a[0].byte) → blB (bt s i : Nat) = true) := fun i hi h0 => by
    refine h.ahead rfl i (Nat.zero_le _) hi (fun x hx => ?_)
    obtain ⟨j, hj, rfl⟩ := List.getElem_of_mem hx
    have h00 := h0 (by omega)
    rcases Nat.eq_zero_or_pos j with rfl | hp
    · exact h00
    · exact Nat.lt_trans h00 (HR.out 0 j (by omega) hj hp)
  obtain ⟨n, hn⟩ : ∃ n, a.length = n := ⟨_, rfl⟩
  rw [hn] at LA
  have LA' : Hid _ := LA
  have HLA : Hid (a.length = n) := hn
  have hma : (a.map (full s)).length = n := by rw [List.length_map, hn]
  clear C h LA hn
  go_enter Tryd.func5, Tryd.ntmps5
  go_wp2_with (first
    | (go_at_call 7; refine (FX.out _ hS).mono ?_; rintro e w1 ⟨rfl, hB1⟩; have hS1 := hS.below hB1)
    | (go_at_call 8; refine (LA'.out _ hS1).mono ?_; rintro e w2 ⟨v2, rfl, hO2, hB2⟩; obtain ⟨a2, c2, rfl, hR2⟩ := rdw_of_owns hma hO2))
  have hBw2 := bt2 hB1 hB2
  have hBA := bta hBw2 (.cells #[.int .i64 0, .int .i64 0, .int .i64 0] 29)
  have hRA := hR2.below (B := w2.heap.size) (Nat.le_refl _) ((Below.refl w2.heap.size w2).alloc (Nat.le_refl _) (.cells #[.int .i64 0, .int .i64 0, .int .i64 0] 29))
  have hcn := hR2.lecap
  have hcx := hR2.lemax
  clear hO2 hB1 hB2 hma hR2 hBw2 FX LA'
  generalize w2.alloc (.cells #[.int .i64 0, .int .i64 0, .int .i64 0] 29) = WF at *
  go_loopw [9, 81] (fun l i wr => ∃ (k : Nat) (lv : Int), k ≤ n ∧ i = .int .i64 k ∧ l = .int .i64 lv ∧ (-1 ≤ lv ∧ lv ≤ 4096) ∧ Hid (∀ hk : k < a.length, lv < (a[k].byte : Int)) ∧ Below WF.heap.size WF wr) (fun _ i _ => n - (intOf i).toNat)
  case atStart => exact ⟨0, -1, Nat.zero_le _, rfl, rfl, by omega, fun hk => by omega, Below.refl _ _⟩
  case round =>
    obtain ⟨k, lv, hk, rfl, rfl, hlv, HLV, hBr⟩ := hrel
    by_cases hlt : k < n
    · have hka : k < a.length := by rw [HLA.out]; exact hlt
      obtain ⟨g, o, rfl, hg, b0, b1, b2, b3, b4⟩ := (hRA.below (Nat.le_refl _) hBr).cell k hlt
      rw [full_get s a k hka] at b0 b1 b2 b3 b4
      dsimp only [full] at b0 b1 b2 b3 b4
      obtain ⟨hby, hbl⟩ := HB.out k hka
      have hl := HLV.out hka
      have HNX : Hid (∀ hk : k + 1 < a.length, ((a[k].byte : Nat) : Int) < (a[k + 1].byte : Int)) := fun hk1 => by have := HR.out k (k + 1) hka hk1 (by omega); omega
      have AT : Hid (∀ w, Calls Tryd.prog 10 #[.string s, .int .i64 (a[k].byte : Nat)] w fun e w' => e = .returned (.tuple #[.agg #[.int .i64 (a[k].byte : Nat), .int .i64 (cnt (s.extract 0 a[k].byte) : Nat)], .int .i64 0]) ∧ Below w.heap.size w w') := fun w => at_in s _ _ w (by omega) (Nat.le_of_lt hby) (cnt_cnt _)
      have BL : Hid (∀ w, Calls Tryd.prog 11 #[.int .i32 (bt s a[k].byte : Nat)] w fun e w' => e = .returned (.bool false) ∧ w = w') := fun w => by have := blank_at (bt s a[k].byte : Nat) w; rwa [hbl] at this
      clear HB HR HLV hbl
      generalize a[k].kind = xk at *
      generalize a[k].text = xt at *
      generalize a[k].num = xn at *
      generalize a[k].byte = xb at *
      generalize cnt (s.extract 0 xb) = xc at *
      go_wp2_with (fail)
      refine (AT.out _).mono ?_
      rintro e w3 ⟨rfl, hB3⟩
      have x3 : w3.cell? ⟨wr.heap.size, 3, none⟩ = some (.int .i64 xb) := by rw [(bcell hB3).1 _ _ (by simp)]; simp
      have x4 : w3.cell? ⟨wr.heap.size, 4, none⟩ = some (.int .i64 xc) := by rw [(bcell hB3).1 _ _ (by simp)]; simp
      have hlF := lt_al (o := .cells #[.int .i64 xb, .int .i64 xc] 27) (World.block_lt_of_cell? _ _ x3)
      have v3 := al_keep x3 hlF ()
      have v4 := al_keep x4 hlF ()
      have hBw3 := bta (bt2 (bta hBr _) hB3) (.cells #[.int .i64 xb, .int .i64 xc] 27)
      clear x3 x4 hB3 hBr b0 b1 b2 b3 b4 hlF
      have d1 : decide ((xb : Int) ≤ lv) = false := decide_eq_false (by omega)
      have d2 : decide ((s.size : Int) ≤ (xb : Int)) = false := decide_eq_false (by omega)
      go_wp2_with (fail)
      rw [wr_bt s xb hby]
      refine (BL.out _).mono ?_
      rintro e w4 ⟨rfl, rfl⟩
      go_wp2
      go_roundw
      case rel => exact ⟨k + 1, xb, by omega, by go_num, rfl, by omega, HNX, hBw3⟩
      case measure => simp [intOf]; omega
    · obtain rfl : k = n := by omega
      clear HB HR HLV
      have hRr := hRA.below (Nat.le_refl _) hBr
      have hBwr := bt2 hBA hBr
      clear hBA hBr hRA
      go_wp2
      go_loopw [14] (fun i ws => ∃ q : Nat, q ≤ s.size ∧ i = .int .i64 q ∧ Below wr.heap.size wr ws) (fun i _ => s.size - (intOf i).toNat)
      case atStart => exact ⟨0, Nat.zero_le _, rfl, Below.refl _ _⟩
      case round =>
        rename_i wz _
        obtain ⟨q, hq, rfl, hBz⟩ := hrel
        by_cases hlt2 : q < s.size
        · rcases Nat.eq_zero_or_pos k with hk0 | hk0
          · have hbl := HA.out q hlt2 (fun h0 => by rw [HLA.out] at h0; omega)
            have e0 : ((k : Int) == 0) = true := by simp; omega
            have e1 : decide ((0 : Int) < (k : Int)) = false := decide_eq_false (by omega)
            have e3 : decide (0 < k) = false := decide_eq_false (by omega)
            have e4 : ¬ 0 < k := by omega
            have BL : Hid (∀ w, Calls Tryd.prog 11 #[.int .i32 (bt s q : Nat)] w fun e w' => e = .returned (.bool true) ∧ w = w') := fun w => by have := blank_at (bt s q : Nat) w; rwa [hbl] at this
            clear hbl hk0
            go_wp2_with (fail)
            rw [wr_bt s q hlt2]
            refine (BL.out _).mono ?_
            rintro e w6 ⟨rfl, rfl⟩
            go_wp2
            go_roundw
            case rel => exact ⟨q + 1, by omega, by go_num, hBz⟩
            case measure => simp [intOf]; omega
          · obtain ⟨g, o, rfl, hg, b0, b1, b2, b3, b4⟩ := (hRr.below (Nat.le_refl _) hBz).cell 0 hk0
            have hka : 0 < a.length := by rw [HLA.out]; exact hk0
            rw [full_get s a 0 hka] at b0 b1 b2 b3 b4
            dsimp only [full] at b0 b1 b2 b3 b4
            have e0 : ((k : Int) == 0) = false := by simp; omega
            have e1 : decide ((0 : Int) < (k : Int)) = true := decide_eq_true (by omega)
            by_cases hin : q < a[0].byte
            · have hbl := HA.out q hlt2 (fun h0 => hin)
              generalize a[0].byte = xb at *
              have e2 : decide ((q : Int) < (xb : Int)) = true := decide_eq_true (by omega)
              simp only [Nat.zero_mul, Nat.add_zero] at b3
              have BL : Hid (∀ w, Calls Tryd.prog 11 #[.int .i32 (bt s q : Nat)] w fun e w' => e = .returned (.bool true) ∧ w = w') := fun w => by have := blank_at (bt s q : Nat) w; rwa [hbl] at this
              clear hbl
              go_wp2_with (fail)
              rw [wr_bt s q hlt2]
              refine (BL.out _).mono ?_
              rintro e w6 ⟨rfl, rfl⟩
              go_wp2
              go_roundw
              case rel => exact ⟨q + 1, by omega, by go_num, hBz⟩
              case measure => simp [intOf]; omega
            · generalize a[0].byte = xb at *
              have e2 : decide ((q : Int) < (xb : Int)) = false := decide_eq_false (by omega)
              simp only [Nat.zero_mul, Nat.add_zero] at b3
              go_wp2_with (fail)
              go_roundw
              case rel => exact ⟨q + 1, by omega, by go_num, hBz⟩
              case measure => simp [intOf]; omega
        · obtain rfl : q = s.size := by omega
          go_wp2
          go_ret
          exact ⟨rfl, bt2 hBwr hBz⟩
theorem places_walk (C : LexC) (s : ByteArray) (w : World) (hS : Sg w) (hs : s.size ≤ 9223372036854775807) :
    Calls Tryd.prog 5 #[.string s] w fun e w' => e = .returned (.bool true) ∧ Below w.heap.size w w' := by
  by_cases h : 4096 < s.size
  · exact places_long C s w hS h hs
  · obtain ⟨a, f, hl⟩ := Lx.ex s
    cases f with
    | none => exact places_good C s w hS a (by omega) hl
    | some x =>
      obtain ⟨c, p⟩ := x
      exact places_bad C s w hS a c p (by omega) hl
end Go.Proofs.YthimmohbedaimaaDoor.Gl
