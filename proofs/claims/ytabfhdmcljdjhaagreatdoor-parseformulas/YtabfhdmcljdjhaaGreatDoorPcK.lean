/- The document's words: letters, number, sign, At. -/
import Derived.Test.YtabfhdmcljdjhaaGreatDoorLyH
import Derived.Test.YtabfhdmcljdjhaaGreatDoorPcC
import Derived.BigQuiet
import Derived.Test.YtabfhdmcljdjhaaGreatDoorPcJ
namespace Go.Proofs.YtabfhdmcljdjhaaGreatDoor.Gl
open Go.RowKit
set_option linter.unusedVariables false
set_option linter.unusedSimpArgs false

theorem dig_bt (s : ByteArray) (p : Nat) : isDig (rdS s p).1 = isDig (bt s p) := by
  by_cases h : bt s p < 128
  · rw [rd_one s p h]
  · have h1 : ¬ (rdS s p).1 < 128 := fun hr => h (by rw [(rd_ascii hr).1]; exact hr)
    have a : isDig (rdS s p).1 = false := decide_eq_false (by omega)
    have b : isDig (bt s p) = false := decide_eq_false (by omega)
    rw [a, b]
theorem bl_bt (s : ByteArray) (p : Nat) : blB ((rdS s p).1 : Nat) = blB (bt s p : Nat) := by
  by_cases h : bt s p < 128
  · rw [rd_one s p h]
  · have h1 : ¬ (rdS s p).1 < 128 := fun hr => h (by rw [(rd_ascii hr).1]; exact hr)
    have a : blB ((rdS s p).1 : Nat) = false := decide_eq_false (by omega)
    have b : blB (bt s p : Nat) = false := decide_eq_false (by omega)
    rw [a, b]
theorem dig_one {s : ByteArray} {p : Nat} (h : isDig (bt s p) = true) : rdS s p = (bt s p, 1, true) := rd_one s p (by have := of_decide_eq_true h; omega)
theorem fits_ext (s : ByteArray) (p : Nat) (x : ByteArray) (h : p + x.size ≤ s.size) : ((s.extract p (p + x.size)).toList == x.toList) = fits s p x := by
  have hz := size_win s p (p + x.size) h
  rw [Bool.eq_iff_iff, eqS_iff, fits_iff]
  constructor
  · intro e
    refine ⟨h, fun j hj => ?_⟩
    rw [← bt_win s p (p + x.size) j h (by omega), e]
  · rintro ⟨_, hb⟩
    have := extract_eq (u := s) (s := x) (a := p) (b := p + x.size) (i := 0) (j := x.size) (Nat.le_refl _) h (by omega) (fun k hk => by rw [Nat.zero_add]; exact hb k (by omega))
    rw [this]
    exact ByteArray.extract_zero_size
set_option maxHeartbeats 1000000 in
theorem rdigit_at (x : Nat) (w : World) (hx : x < 256) : Calls Tryz.prog 64 #[.int .u8 (x : Nat)] w fun e w' => e = .returned (.bool (isDig x)) ∧ w = w' := by
  by_cases h1 : 48 ≤ x
  · by_cases h2 : x ≤ 57
    · have HE : Hid (isDig x = true) := decide_eq_true ⟨h1, h2⟩
      go_enter Tryz.func64, Tryz.ntmps64
      go_wp2
      go_ret
      exact ⟨retb (by rw [HE.out]; exact decide_eq_true (by omega)), rfl⟩
    · have HE : Hid (isDig x = false) := decide_eq_false (fun h => h2 h.2)
      go_enter Tryz.func64, Tryz.ntmps64
      go_wp2
      go_ret
      exact ⟨retb (by rw [HE.out]; exact decide_eq_false (by omega)), rfl⟩
  · have HE : Hid (isDig x = false) := decide_eq_false (fun h => h1 h.1)
    go_enter Tryz.func64, Tryz.ntmps64
    go_wp2
    go_ret
    exact ⟨retb HE.out.symm, rfl⟩
set_option maxHeartbeats 2000000 in
theorem rletters_at (s : ByteArray) (p : Nat) (w : World) (hs : s.size ≤ 4096) (hp : p ≤ s.size) :
    Calls Tryz.prog 61 #[.string s, .int .i64 (p : Nat)] w fun e w' => e = .returned (.int .i64 (run reN s p : Nat)) ∧ Below w.heap.size w w' := by
  have HP : Hid (RunTo reN s p p) := .nil p
  obtain ⟨g, hg⟩ : ∃ g, run reN s p = g := ⟨_, rfl⟩
  have HG : Hid (∀ q, RunTo reN s p q → Ends reN s q → g = q) := fun q h1 h2 => by rw [← hg]; exact run_is h1 h2
  rw [hg]
  clear hg
  go_enter Tryz.func61, Tryz.ntmps61
  go_wp2
  go_loopw [1] (fun a wr => ∃ q : Nat, a = .int .i64 (q : Nat) ∧ q ≤ s.size ∧ Hid (RunTo reN s p q) ∧ Below w.heap.size w wr) (fun a _ => s.size - (intOf a).toNat)
  case atStart => exact ⟨p, rfl, hp, HP, Below.refl _ _⟩
  case round =>
    obtain ⟨q, rfl, hq, hR, hB⟩ := hrel
    by_cases hlt : q < s.size
    · obtain ⟨hb1, hb2, -⟩ := rd_bd s q hlt
      obtain ⟨⟨r, wd, ok⟩, hrd⟩ : ∃ t, rdS s q = t := ⟨_, rfl⟩
      have RD := mkHid (fun w => read_is s q r wd ok w (by omega) hlt hrd)
      rw [hrd] at hb1 hb2
      dsimp only at hb1 hb2
      cases ok with
      | false =>
        have HE : Hid (g = q) := HG.out q hR.out (fun h => by have := h.2.1; rw [hrd] at this; cases this)
        clear hrd HG HP hR
        go_wp2_with (go_at_call 59; refine (RD.out _).mono ?_; rintro e w2 ⟨rfl, rfl⟩)
        go_ret
        exact ⟨ret1 (by rw [HE.out]), hB⟩
      | true =>
        cases hre : reB (r : Nat) with
        | false =>
          have RS := mkHid (fun w => (rrest_at (r : Nat) w))
          rw [hre] at RS
          have HE : Hid (g = q) := HG.out q hR.out (fun h => by have h3 : reB ((rdS s q).1 : Nat) = true := h.2.2; rw [hrd, hre] at h3; cases h3)
          clear hrd HG HP hR hre
          go_wp2_with (first
            | (go_at_call 59; refine (RD.out _).mono ?_; rintro e w2 ⟨rfl, rfl⟩)
            | (go_at_call 91; refine (RS.out _).mono ?_; rintro e w3 ⟨rfl, hB3⟩))
          go_ret
          exact ⟨ret1 (by rw [HE.out]), bt2 hB hB3⟩
        | true =>
          have RS := mkHid (fun w => (rrest_at (r : Nat) w))
          rw [hre] at RS
          have HN : Hid (RunTo reN s p (q + wd)) := by
            have := hR.out.snoc hlt (by rw [hrd]) (by rw [hrd]; exact hre)
            rwa [hrd] at this
          clear hrd HP hR hre
          go_wp2_with (first
            | (go_at_call 59; refine (RD.out _).mono ?_; rintro e w2 ⟨rfl, rfl⟩)
            | (go_at_call 91; refine (RS.out _).mono ?_; rintro e w3 ⟨rfl, hB3⟩))
          go_roundw
          case rel => exact ⟨q + wd, by go_num, by omega, HN, bt2 hB hB3⟩
          case measure => simp [intOf]; omega
    · have HE : Hid (g = q) := HG.out q hR.out (fun h => hlt h.1)
      clear HG HP hR
      go_wp2
      go_ret
      exact ⟨ret1 (by rw [HE.out]), hB⟩
/- number -/
theorem valF_mono (s : ByteArray) (p k : Nat) : ∀ m, valF s p k ≤ valF s p (k + m)
  | 0 => Nat.le_refl _
  | m + 1 => by
    have := valF_mono s p k m
    rw [show k + (m + 1) = (k + m) + 1 by omega, valF]
    omega
set_option maxHeartbeats 2000000 in
theorem rnumber_at (d : ByteArray) (v : Nat) (ok : Bool) (w : World) (hd : ∀ j, j < d.size → isDig (bt d j) = true) (hs : d.size ≤ 4096)
    (h : (9223372036854775807 < valF d 0 d.size ∧ v = 0 ∧ ok = false) ∨ (¬ 9223372036854775807 < valF d 0 d.size ∧ v = valF d 0 d.size ∧ ok = true)) :
    Calls Tryz.prog 65 #[.string d] w fun e w' => e = .returned (.tuple #[.int .i64 (v : Nat), .bool ok]) ∧ w = w' := by
  have HD := mkHid hd
  have HH := mkHid h
  clear h hd
  go_enter Tryz.func65, Tryz.ntmps65
  go_wp2
  go_loop [4, 5] (fun x i => ∃ k u : Nat, k ≤ d.size ∧ i = .int .i64 (k : Nat) ∧ x = .int .i64 (u : Nat) ∧ u ≤ 9223372036854775807 ∧ Hid (valF d 0 k = u)) (fun _ i => d.size - (intOf i).toNat)
  case atStart => exact ⟨0, 0, Nat.zero_le _, rfl, rfl, by omega, rfl⟩
  case round =>
    obtain ⟨k, u, hk, rfl, rfl, hu, HV⟩ := hrel
    by_cases hlt : k < d.size
    · have hdg := HD.out k hlt
      have hb := bt_of d k hlt
      rw [hb] at hdg
      have hdg := of_decide_eq_true hdg
      have HN : Hid (valF d 0 (k + 1) = 10 * u + (d[k].toNat - 48)) := by show _ = _; rw [valF, HV.out, Nat.zero_add, hb]
      have HM : Hid (valF d 0 (k + 1) ≤ valF d 0 d.size) := by
        have := valF_mono d 0 (k + 1) (d.size - (k + 1))
        rwa [show k + 1 + (d.size - (k + 1)) = d.size by omega] at this
      obtain ⟨h48, h57⟩ := hdg
      have big : (922337203685477580 < u ∨ (u = 922337203685477580 ∧ 55 < d[k].toNat)) → Hid (Ending.returned (.tuple #[.int .i64 0, .bool false]) = .returned (.tuple #[.int .i64 (v : Nat), .bool ok])) := fun hc => by
        have h1 : 9223372036854775807 < valF d 0 d.size := by have := HN.out; have := HM.out; omega
        rcases HH.out with ⟨_, rfl, rfl⟩ | ⟨h2, _⟩
        · rfl
        · exact absurd h1 h2
      clear hb
      by_cases c1 : 922337203685477580 < u
      · have HE := big (.inl c1)
        clear big HN HM HH HD HV
        go_wp2
        exact bodyPost_ret (v := .tuple #[.int .i64 0, .bool false]) (by simp [results, Tryz.results65, go_sem]) rfl ⟨HE.out, rfl⟩
      · by_cases c2 : u = 922337203685477580
        · by_cases c3 : 55 < d[k].toNat
          · have HE := big (.inr ⟨c2, c3⟩)
            subst c2
            clear big HN HM HH HD HV
            go_wp2
            exact bodyPost_ret (v := .tuple #[.int .i64 0, .bool false]) (by simp [results, Tryz.results65, go_sem]) rfl ⟨HE.out, rfl⟩
          · subst c2
            clear big HM HH HD HV
            go_wp2
            go_round
            case rel => exact ⟨k + 1, _, by omega, by go_num, by go_num, by omega, HN⟩
            case measure => simp [intOf]; omega
        · have c2' : ((u : Int) == 922337203685477580) = false := by rw [beq_eq_false_iff_ne]; omega
          clear big HM HH HD HV
          go_wp2
          go_round
          case rel => exact ⟨k + 1, 10 * u + (d[k].toNat - 48), by omega, by go_num, by go_num, by omega, HN⟩
          case measure => simp [intOf]; omega
    · obtain rfl : k = d.size := by omega
      have HE : Hid (Ending.returned (.tuple #[.int .i64 (u : Nat), .bool true]) = .returned (.tuple #[.int .i64 (v : Nat), .bool ok])) := by
        show _ = _
        rcases HH.out with ⟨h1, _⟩ | ⟨_, rfl, rfl⟩
        · rw [HV.out] at h1; omega
        · rw [HV.out]
      clear HH HD HV
      go_wp2
      exact bodyPost_ret (v := .tuple #[.int .i64 (u : Nat), .bool true]) (by simp [results, Tryz.results65, go_sem]) rfl ⟨HE.out, rfl⟩
/- At -/
set_option maxHeartbeats 1000000 in
theorem rat_at (s : ByteArray) (p : Nat) (w : World) (hs : s.size ≤ 9223372036854775807) (hp : p ≤ s.size) :
    Calls Tryz.prog 37 #[.string s, .int .i64 (p : Nat)] w fun e w' => e = .returned (.agg #[.int .i64 (p : Nat), .int .i64 (cnt (s.extract 0 p) : Nat)]) ∧ Below w.heap.size w w' := by
  have hz := size_win s 0 p hp
  obtain ⟨c, hc⟩ : ∃ c, cnt (s.extract 0 p) = c := ⟨_, rfl⟩
  have CC := mkHid (fun w => rchars_at (s.extract 0 p) c w (by omega) (by rw [← hc]; exact cnt_cnt _))
  rw [hc]
  clear hc
  go_enter Tryz.func37, Tryz.ntmps37
  go_wp2_with (go_at_call 63; refine (CC.out _).mono ?_; rintro e w2 ⟨rfl, rfl⟩)
  refine bodyPost_ret (v := .agg #[.int .i64 (p : Nat), .int .i64 (c : Nat)]) (by simp [results, Tryz.results37, go_sem]) rfl ⟨rfl, ?_⟩
  repeat refine Below.setCell ?_ (by simp) _
  exact bta (Below.refl _ _) _
end Go.Proofs.YtabfhdmcljdjhaaGreatDoor.Gl
/- The document's words: sign. -/
namespace Go.Proofs.YtabfhdmcljdjhaaGreatDoor.Gl
open Go.RowKit
set_option linter.unusedVariables false
set_option linter.unusedSimpArgs false

/- sign -/
theorem longest_step (s : ByteArray) (p : Nat) (xs : List ByteArray) (k : Nat) (b : ByteArray) (h : k < xs.length) : longest s p (xs.drop k) b = longest s p (xs.drop (k + 1)) (if (fits s p (xs.getD k emp) && decide (b.size < (xs.getD k emp).size)) = true then xs.getD k emp else b) := by
  rw [List.drop_eq_getElem_cons h, longest, sgetD_of h]
theorem signs_bd : ∀ k, k < 18 → 1 ≤ (allSigns.getD k emp).size ∧ (allSigns.getD k emp).size ≤ 3 := by decide +kernel
set_option maxHeartbeats 4000000 in
theorem rsign_at (s : ByteArray) (p : Nat) (w : World) (hs : s.size ≤ 4096) (hp : p ≤ s.size) :
    Calls Tryz.prog 67 #[.string s, .int .i64 (p : Nat)] w fun e w' => e = .returned (.string (sgn s p)) ∧ Below w.heap.size w w' := by
  have hR : RdS (w.alloc (.cells #[.string ⟨#[40]⟩, .string ⟨#[41]⟩, .string ⟨#[91]⟩, .string ⟨#[93]⟩, .string ⟨#[44]⟩, .string ⟨#[46]⟩, .string ⟨#[43]⟩, .string ⟨#[45]⟩, .string ⟨#[42]⟩, .string ⟨#[61]⟩, .string ⟨#[33, 61]⟩, .string ⟨#[60, 61]⟩, .string ⟨#[62, 61]⟩, .string ⟨#[60]⟩, .string ⟨#[62]⟩, .string ⟨#[45, 62]⟩, .string ⟨#[60, 45, 62]⟩, .string ⟨#[126]⟩] 9)) (some ⟨w.heap.size, 0, none⟩) 18 18 allSigns := rds_built w allSigns 18 9 w.heap.size rfl rfl (by omega)
  have hB : Below w.heap.size w (w.alloc (.cells #[.string ⟨#[40]⟩, .string ⟨#[41]⟩, .string ⟨#[91]⟩, .string ⟨#[93]⟩, .string ⟨#[44]⟩, .string ⟨#[46]⟩, .string ⟨#[43]⟩, .string ⟨#[45]⟩, .string ⟨#[42]⟩, .string ⟨#[61]⟩, .string ⟨#[33, 61]⟩, .string ⟨#[60, 61]⟩, .string ⟨#[62, 61]⟩, .string ⟨#[60]⟩, .string ⟨#[62]⟩, .string ⟨#[45, 62]⟩, .string ⟨#[60, 45, 62]⟩, .string ⟨#[126]⟩] 9)) := (Below.refl _ _).alloc (Nat.le_refl _) _
  have hdr : ∀ n, Below w.heap.size w ((w.alloc (.cells #[.string ⟨#[40]⟩, .string ⟨#[41]⟩, .string ⟨#[91]⟩, .string ⟨#[93]⟩, .string ⟨#[44]⟩, .string ⟨#[46]⟩, .string ⟨#[43]⟩, .string ⟨#[45]⟩, .string ⟨#[42]⟩, .string ⟨#[61]⟩, .string ⟨#[33, 61]⟩, .string ⟨#[60, 61]⟩, .string ⟨#[62, 61]⟩, .string ⟨#[60]⟩, .string ⟨#[62]⟩, .string ⟨#[45, 62]⟩, .string ⟨#[60, 45, 62]⟩, .string ⟨#[126]⟩] 9)).drewN n) := fun n => below_drewn hB n
  have HR : Hid _ := hR
  have HD := mkHid hdr
  clear hR hdr
  go_enter Tryz.func67, Tryz.ntmps67
  go_wp2
  generalize hw0 : w.alloc (.cells #[.string ⟨#[40]⟩, .string ⟨#[41]⟩, .string ⟨#[91]⟩, .string ⟨#[93]⟩, .string ⟨#[44]⟩, .string ⟨#[46]⟩, .string ⟨#[43]⟩, .string ⟨#[45]⟩, .string ⟨#[42]⟩, .string ⟨#[61]⟩, .string ⟨#[33, 61]⟩, .string ⟨#[60, 61]⟩, .string ⟨#[62, 61]⟩, .string ⟨#[60]⟩, .string ⟨#[62]⟩, .string ⟨#[45, 62]⟩, .string ⟨#[60, 45, 62]⟩, .string ⟨#[126]⟩] 9) = w0 at *
  go_loopw [6, 7] (fun x i wr => ∃ (k : Nat) (b : ByteArray), k ≤ 18 ∧ i = .int .i64 (k : Nat) ∧ x = .string b ∧ b.size ≤ 3 ∧ Hid (longest s p (allSigns.drop k) b = sgn s p) ∧ Below w0.heap.size w0 wr) (fun _ i _ => 18 - (intOf i).toNat)
  case atStart => exact ⟨0, emp, Nat.zero_le _, rfl, rfl, by decide, rfl, Below.refl _ _⟩
  case round =>
    obtain ⟨k, b, hk, rfl, rfl, hb3, HL, hBr⟩ := hrel
    by_cases hlt : k < 18
    · obtain ⟨g, off, e, hc0⟩ := HR.out.cell k hlt
      obtain ⟨rfl, rfl⟩ : w.heap.size = g ∧ 0 = off := by simpa using e
      rw [Nat.zero_add] at hc0
      have hgl : w.heap.size < w0.heap.size := by rw [← hw0]; simp
      have hc : wr.cell? ⟨w.heap.size, k, none⟩ = some (.string (allSigns.getD k emp)) := (hBr.cell (p := ⟨w.heap.size, k, none⟩) hgl).trans hc0
      have HS : Hid _ := HL.out.symm.trans (longest_step s p allSigns k b hlt)
      have hx := signs_bd k hlt
      have hf := fits_ext s p (allSigns.getD k emp)
      have hnd := fun q => below_drewn hBr q
      clear hc0 e HL
      generalize allSigns.getD k emp = x at *
      by_cases h1 : p + x.size ≤ s.size
      · replace hf := hf h1
        have d1 : ((x.size : Int) ≤ (s.size : Int) - (p : Int)) = True := by simp; omega
        have hle : (x.size : Int) ≤ (s.size : Int) - (p : Int) := by omega
        cases hft : fits s p x with
        | false =>
          rw [hft] at hf
          have HE : Hid (longest s p (allSigns.drop (k + 1)) b = sgn s p) := by
            show _ = _
            rw [HS.out, hft]; rfl
          clear HS HR HD hft
          go_wp2
          go_quiet (fail)
          go_wp2
          go_roundw
          case rel => exact ⟨k + 1, b, by omega, by go_num, rfl, hb3, HE, hnd _⟩
          case measure => simp [intOf]; omega
        | true =>
          rw [hft] at hf
          by_cases h2 : b.size < x.size
          · have HE : Hid (longest s p (allSigns.drop (k + 1)) x = sgn s p) := by
              show _ = _
              rw [HS.out, hft, decide_eq_true h2]; rfl
            clear HS HR HD hft
            go_wp2
            go_quiet (fail)
            go_wp2
            go_roundw
            case rel => exact ⟨k + 1, x, by omega, by go_num, rfl, hx.2, HE, hnd _⟩
            case measure => simp [intOf]; omega
          · have HE : Hid (longest s p (allSigns.drop (k + 1)) b = sgn s p) := by
              show _ = _
              rw [HS.out, hft, decide_eq_false h2]; rfl
            clear HS HR HD hft
            go_wp2
            go_quiet (fail)
            go_wp2
            go_roundw
            case rel => exact ⟨k + 1, b, by omega, by go_num, rfl, hb3, HE, hnd _⟩
            case measure => simp [intOf]; omega
      · have hft : fits s p x = false := by
          cases hq : fits s p x with
          | false => rfl
          | true => exact absurd ((fits_iff s p x).1 hq).1 h1
        have HE : Hid (longest s p (allSigns.drop (k + 1)) b = sgn s p) := by
          show _ = _
          rw [HS.out, hft]; rfl
        have hle2 : (s.size : Int) - (p : Int) < (x.size : Int) := by omega
        have hd : decide ((x.size : Int) ≤ (s.size : Int) - (p : Int)) = false := decide_eq_false (by omega)
        clear HS HR HD hft hf
        go_wp2
        go_quiet (fail)
        go_wp2
        go_roundw
        case rel => exact ⟨k + 1, b, by omega, by go_num, rfl, hb3, HE, hnd _⟩
        case measure => simp [intOf]; omega
    · obtain rfl : k = 18 := by omega
      have HE : Hid (sgn s p = b) := HL.out.symm
      clear HR HD HL
      go_wp2
      go_ret
      exact ⟨rets HE.out.symm, by have hs0 := hB.size; exact hB.trans (hBr.mono hs0)⟩
end Go.Proofs.YtabfhdmcljdjhaaGreatDoor.Gl
/- The landed reader: relation. -/
namespace Go.Proofs.YtabfhdmcljdjhaaGreatDoor.Gl
open Go.RowKit
set_option linter.unusedVariables false
set_option linter.unusedSimpArgs false

set_option maxHeartbeats 4000000 in
theorem rel_0 {X : Rx} {w : World} {p : Nat} (h : Ps X w (.at p)) (hs : IsS X.ws p (⟨#[60, 61]⟩ : ByteArray)) :
    Calls Tryz.prog 114 #[.pointer (some ⟨X.b, 0, none⟩)] w fun e w' => e = .returned (.int .i64 9) ∧ Ps X w' (.at (p + 1)) ∧ Bux X.b w w' := by
  go_enter Tryz.func114, Tryz.ntmps114
  go_wp2_with (fail)
  refine (takes_yes h hs).mono ?_
  rintro e w0 ⟨rfl, h0, hC0⟩
  go_wp2
  go_ret
  exact ⟨rfl, h0, hC0⟩
set_option maxHeartbeats 4000000 in
theorem rel_1 {X : Rx} {w : World} {p : Nat} (h : Ps X w (.at p)) (hs : IsS X.ws p (⟨#[60]⟩ : ByteArray)) :
    Calls Tryz.prog 114 #[.pointer (some ⟨X.b, 0, none⟩)] w fun e w' => e = .returned (.int .i64 10) ∧ Ps X w' (.at (p + 1)) ∧ Bux X.b w w' := by
  go_enter Tryz.func114, Tryz.ntmps114
  go_wp2_with (fail)
  refine (takes_no (x := ⟨#[60, 61]⟩) h (by decide) (hs.ne (by decide))).mono ?_
  rintro e w0 ⟨rfl, h0, hB0⟩
  go_wp2_with (fail)
  refine (takes_yes h0 hs).mono ?_
  rintro e w1 ⟨rfl, h1, hC1⟩
  go_wp2
  go_ret
  exact ⟨rfl, h1, (Bux.of hB0).trans (hC1)⟩
set_option maxHeartbeats 4000000 in
theorem rel_2 {X : Rx} {w : World} {p : Nat} (h : Ps X w (.at p)) (hs : IsS X.ws p (⟨#[62, 61]⟩ : ByteArray)) :
    Calls Tryz.prog 114 #[.pointer (some ⟨X.b, 0, none⟩)] w fun e w' => e = .returned (.int .i64 11) ∧ Ps X w' (.at (p + 1)) ∧ Bux X.b w w' := by
  go_enter Tryz.func114, Tryz.ntmps114
  go_wp2_with (fail)
  refine (takes_no (x := ⟨#[60, 61]⟩) h (by decide) (hs.ne (by decide))).mono ?_
  rintro e w0 ⟨rfl, h0, hB0⟩
  go_wp2_with (fail)
  refine (takes_no (x := ⟨#[60]⟩) h0 (by decide) (hs.ne (by decide))).mono ?_
  rintro e w1 ⟨rfl, h1, hB1⟩
  go_wp2_with (fail)
  refine (takes_yes h1 hs).mono ?_
  rintro e w2 ⟨rfl, h2, hC2⟩
  go_wp2
  go_ret
  exact ⟨rfl, h2, (Bux.of hB0).trans ((Bux.of hB1).trans (hC2))⟩
set_option maxHeartbeats 4000000 in
theorem rel_3 {X : Rx} {w : World} {p : Nat} (h : Ps X w (.at p)) (hs : IsS X.ws p (⟨#[62]⟩ : ByteArray)) :
    Calls Tryz.prog 114 #[.pointer (some ⟨X.b, 0, none⟩)] w fun e w' => e = .returned (.int .i64 12) ∧ Ps X w' (.at (p + 1)) ∧ Bux X.b w w' := by
  go_enter Tryz.func114, Tryz.ntmps114
  go_wp2_with (fail)
  refine (takes_no (x := ⟨#[60, 61]⟩) h (by decide) (hs.ne (by decide))).mono ?_
  rintro e w0 ⟨rfl, h0, hB0⟩
  go_wp2_with (fail)
  refine (takes_no (x := ⟨#[60]⟩) h0 (by decide) (hs.ne (by decide))).mono ?_
  rintro e w1 ⟨rfl, h1, hB1⟩
  go_wp2_with (fail)
  refine (takes_no (x := ⟨#[62, 61]⟩) h1 (by decide) (hs.ne (by decide))).mono ?_
  rintro e w2 ⟨rfl, h2, hB2⟩
  go_wp2_with (fail)
  refine (takes_yes h2 hs).mono ?_
  rintro e w3 ⟨rfl, h3, hC3⟩
  go_wp2
  go_ret
  exact ⟨rfl, h3, (Bux.of hB0).trans ((Bux.of hB1).trans ((Bux.of hB2).trans (hC3)))⟩
set_option maxHeartbeats 4000000 in
theorem rel_4 {X : Rx} {w : World} {p : Nat} (h : Ps X w (.at p)) (hs : IsS X.ws p (⟨#[61]⟩ : ByteArray)) :
    Calls Tryz.prog 114 #[.pointer (some ⟨X.b, 0, none⟩)] w fun e w' => e = .returned (.int .i64 13) ∧ Ps X w' (.at (p + 1)) ∧ Bux X.b w w' := by
  go_enter Tryz.func114, Tryz.ntmps114
  go_wp2_with (fail)
  refine (takes_no (x := ⟨#[60, 61]⟩) h (by decide) (hs.ne (by decide))).mono ?_
  rintro e w0 ⟨rfl, h0, hB0⟩
  go_wp2_with (fail)
  refine (takes_no (x := ⟨#[60]⟩) h0 (by decide) (hs.ne (by decide))).mono ?_
  rintro e w1 ⟨rfl, h1, hB1⟩
  go_wp2_with (fail)
  refine (takes_no (x := ⟨#[62, 61]⟩) h1 (by decide) (hs.ne (by decide))).mono ?_
  rintro e w2 ⟨rfl, h2, hB2⟩
  go_wp2_with (fail)
  refine (takes_no (x := ⟨#[62]⟩) h2 (by decide) (hs.ne (by decide))).mono ?_
  rintro e w3 ⟨rfl, h3, hB3⟩
  go_wp2_with (fail)
  refine (takes_yes h3 hs).mono ?_
  rintro e w4 ⟨rfl, h4, hC4⟩
  go_wp2
  go_ret
  exact ⟨rfl, h4, (Bux.of hB0).trans ((Bux.of hB1).trans ((Bux.of hB2).trans ((Bux.of hB3).trans (hC4))))⟩
set_option maxHeartbeats 4000000 in
theorem rel_5 {X : Rx} {w : World} {p : Nat} (h : Ps X w (.at p)) (hs : IsS X.ws p (⟨#[33, 61]⟩ : ByteArray)) :
    Calls Tryz.prog 114 #[.pointer (some ⟨X.b, 0, none⟩)] w fun e w' => e = .returned (.int .i64 14) ∧ Ps X w' (.at (p + 1)) ∧ Bux X.b w w' := by
  go_enter Tryz.func114, Tryz.ntmps114
  go_wp2_with (fail)
  refine (takes_no (x := ⟨#[60, 61]⟩) h (by decide) (hs.ne (by decide))).mono ?_
  rintro e w0 ⟨rfl, h0, hB0⟩
  go_wp2_with (fail)
  refine (takes_no (x := ⟨#[60]⟩) h0 (by decide) (hs.ne (by decide))).mono ?_
  rintro e w1 ⟨rfl, h1, hB1⟩
  go_wp2_with (fail)
  refine (takes_no (x := ⟨#[62, 61]⟩) h1 (by decide) (hs.ne (by decide))).mono ?_
  rintro e w2 ⟨rfl, h2, hB2⟩
  go_wp2_with (fail)
  refine (takes_no (x := ⟨#[62]⟩) h2 (by decide) (hs.ne (by decide))).mono ?_
  rintro e w3 ⟨rfl, h3, hB3⟩
  go_wp2_with (fail)
  refine (takes_no (x := ⟨#[61]⟩) h3 (by decide) (hs.ne (by decide))).mono ?_
  rintro e w4 ⟨rfl, h4, hB4⟩
  go_wp2_with (fail)
  refine (takes_yes h4 hs).mono ?_
  rintro e w5 ⟨rfl, h5, hC5⟩
  go_wp2
  go_ret
  exact ⟨rfl, h5, (Bux.of hB0).trans ((Bux.of hB1).trans ((Bux.of hB2).trans ((Bux.of hB3).trans ((Bux.of hB4).trans (hC5)))))⟩
set_option maxHeartbeats 4000000 in
theorem rel_6 {X : Rx} {w : World} {p : Nat} (h : Ps X w (.at p)) (hs : IsS X.ws p (⟨#[126]⟩ : ByteArray)) :
    Calls Tryz.prog 114 #[.pointer (some ⟨X.b, 0, none⟩)] w fun e w' => e = .returned (.int .i64 15) ∧ Ps X w' (.at (p + 1)) ∧ Bux X.b w w' := by
  go_enter Tryz.func114, Tryz.ntmps114
  go_wp2_with (fail)
  refine (takes_no (x := ⟨#[60, 61]⟩) h (by decide) (hs.ne (by decide))).mono ?_
  rintro e w0 ⟨rfl, h0, hB0⟩
  go_wp2_with (fail)
  refine (takes_no (x := ⟨#[60]⟩) h0 (by decide) (hs.ne (by decide))).mono ?_
  rintro e w1 ⟨rfl, h1, hB1⟩
  go_wp2_with (fail)
  refine (takes_no (x := ⟨#[62, 61]⟩) h1 (by decide) (hs.ne (by decide))).mono ?_
  rintro e w2 ⟨rfl, h2, hB2⟩
  go_wp2_with (fail)
  refine (takes_no (x := ⟨#[62]⟩) h2 (by decide) (hs.ne (by decide))).mono ?_
  rintro e w3 ⟨rfl, h3, hB3⟩
  go_wp2_with (fail)
  refine (takes_no (x := ⟨#[61]⟩) h3 (by decide) (hs.ne (by decide))).mono ?_
  rintro e w4 ⟨rfl, h4, hB4⟩
  go_wp2_with (fail)
  refine (takes_no (x := ⟨#[33, 61]⟩) h4 (by decide) (hs.ne (by decide))).mono ?_
  rintro e w5 ⟨rfl, h5, hB5⟩
  go_wp2_with (fail)
  refine (takes_yes h5 hs).mono ?_
  rintro e w6 ⟨rfl, h6, hC6⟩
  go_wp2
  go_ret
  exact ⟨rfl, h6, (Bux.of hB0).trans ((Bux.of hB1).trans ((Bux.of hB2).trans ((Bux.of hB3).trans ((Bux.of hB4).trans ((Bux.of hB5).trans (hC6))))))⟩
set_option maxHeartbeats 4000000 in
theorem rel_7 {X : Rx} {w : World} {P : Pos} (h : Ps X w P) (hn : ∀ x ∈ rels, ¬ P.stands X.ws x) :
    Calls Tryz.prog 114 #[.pointer (some ⟨X.b, 0, none⟩)] w fun e w' => e = .returned (.int .i64 1) ∧ Ps X w' (P.ref 71) ∧ Bux X.b w w' := by
  go_enter Tryz.func114, Tryz.ntmps114
  go_wp2_with (fail)
  refine (takes_no (x := ⟨#[60, 61]⟩) h (by decide) (hn _ (by simp [rels]))).mono ?_
  rintro e w0 ⟨rfl, h0, hB0⟩
  go_wp2_with (fail)
  refine (takes_no (x := ⟨#[60]⟩) h0 (by decide) (hn _ (by simp [rels]))).mono ?_
  rintro e w1 ⟨rfl, h1, hB1⟩
  go_wp2_with (fail)
  refine (takes_no (x := ⟨#[62, 61]⟩) h1 (by decide) (hn _ (by simp [rels]))).mono ?_
  rintro e w2 ⟨rfl, h2, hB2⟩
  go_wp2_with (fail)
  refine (takes_no (x := ⟨#[62]⟩) h2 (by decide) (hn _ (by simp [rels]))).mono ?_
  rintro e w3 ⟨rfl, h3, hB3⟩
  go_wp2_with (fail)
  refine (takes_no (x := ⟨#[61]⟩) h3 (by decide) (hn _ (by simp [rels]))).mono ?_
  rintro e w4 ⟨rfl, h4, hB4⟩
  go_wp2_with (fail)
  refine (takes_no (x := ⟨#[33, 61]⟩) h4 (by decide) (hn _ (by simp [rels]))).mono ?_
  rintro e w5 ⟨rfl, h5, hB5⟩
  go_wp2_with (fail)
  refine (takes_no (x := ⟨#[126]⟩) h5 (by decide) (hn _ (by simp [rels]))).mono ?_
  rintro e w6 ⟨rfl, h6, hB6⟩
  go_wp2_with (fail)
  refine (refuse_any h6 71 (by decide)).mono ?_
  rintro e w7 ⟨rfl, h7, hC7⟩
  go_wp2
  go_ret
  exact ⟨rfl, h7, (Bux.of hB0).trans ((Bux.of hB1).trans ((Bux.of hB2).trans ((Bux.of hB3).trans ((Bux.of hB4).trans ((Bux.of hB5).trans ((Bux.of hB6).trans (hC7)))))))⟩
/-- every way -/
theorem relation_at {X : Rx} {w : World} {P P2 : Pos} {i : Option Nat} (h : Ps X w P) (hr : GR X.ws P i P2) :
    Calls Tryz.prog 114 #[.pointer (some ⟨X.b, 0, none⟩)] w fun e w' => ∃ o : Int, e = .returned (.int .i64 o) ∧ (∀ k, i = some k → k < 7 ∧ o = 9 + (k : Nat)) ∧ (i = none → o = 1) ∧ Ps X w' P2 ∧ Bux X.b w w' := by
  cases hr with
  | bad => exact (rel_7 h (fun _ _ h => h)).mono fun e w' ⟨h1, h2, h3⟩ => ⟨1, h1, fun _ e => (by cases e), fun _ => rfl, h2, h3⟩
  | none hn => exact (rel_7 h hn).mono fun e w' ⟨h1, h2, h3⟩ => ⟨1, h1, fun _ e => (by cases e), fun _ => rfl, h2, h3⟩
  | @some p k hk hs =>
    rcases (show k = 0 ∨ k = 1 ∨ k = 2 ∨ k = 3 ∨ k = 4 ∨ k = 5 ∨ k = 6 by omega) with rfl | rfl | rfl | rfl | rfl | rfl | rfl
    · exact (rel_0 h hs).mono fun e w' ⟨h1, h2, h3⟩ => ⟨_, h1, fun _ e => by cases e; exact ⟨by decide, rfl⟩, fun e => (by cases e), h2, h3⟩
    · exact (rel_1 h hs).mono fun e w' ⟨h1, h2, h3⟩ => ⟨_, h1, fun _ e => by cases e; exact ⟨by decide, rfl⟩, fun e => (by cases e), h2, h3⟩
    · exact (rel_2 h hs).mono fun e w' ⟨h1, h2, h3⟩ => ⟨_, h1, fun _ e => by cases e; exact ⟨by decide, rfl⟩, fun e => (by cases e), h2, h3⟩
    · exact (rel_3 h hs).mono fun e w' ⟨h1, h2, h3⟩ => ⟨_, h1, fun _ e => by cases e; exact ⟨by decide, rfl⟩, fun e => (by cases e), h2, h3⟩
    · exact (rel_4 h hs).mono fun e w' ⟨h1, h2, h3⟩ => ⟨_, h1, fun _ e => by cases e; exact ⟨by decide, rfl⟩, fun e => (by cases e), h2, h3⟩
    · exact (rel_5 h hs).mono fun e w' ⟨h1, h2, h3⟩ => ⟨_, h1, fun _ e => by cases e; exact ⟨by decide, rfl⟩, fun e => (by cases e), h2, h3⟩
    · exact (rel_6 h hs).mono fun e w' ⟨h1, h2, h3⟩ => ⟨_, h1, fun _ e => by cases e; exact ⟨by decide, rfl⟩, fun e => (by cases e), h2, h3⟩
theorem gr_ex (ws : List Wd) (P : Pos) : ∃ i P2, GR ws P i P2 := by
  cases P with
  | bad y q => exact ⟨_, _, .bad⟩
  | «at» p =>
    by_cases h : ∃ x ∈ rels, IsS ws p x
    · obtain ⟨x, hx, hs⟩ := h
      obtain ⟨i, hi, rfl⟩ := rels_mem hx
      exact ⟨_, _, .some hi hs⟩
    · exact ⟨_, _, .none fun x hx hs => h ⟨x, hx, hs⟩⟩
theorem gm_ex (ws : List Wd) (P : Pos) : ∃ r, GM ws P r := by
  cases P with
  | bad y q => exact ⟨_, .bad⟩
  | «at» p =>
    by_cases h : ∃ n, IsD ws p n
    · obtain ⟨n, h⟩ := h
      by_cases h0 : n = 0
      · subst h0; exact ⟨_, .zero h⟩
      · exact ⟨_, .ok h h0⟩
    · exact ⟨_, .none fun n hn => h ⟨n, hn⟩⟩
theorem need_ex (ws : List Wd) (x : ByteArray) (P : Pos) : ∃ P', P.need ws x P' := by
  by_cases h : P.stands ws x
  · cases P with
    | bad y q => exact h.elim
    | «at» p => exact ⟨_, .inl ⟨p, rfl, h, rfl⟩⟩
  · exact ⟨_, .inr ⟨h, rfl⟩⟩
theorem GR.from {ws : List Wd} {P P2 : Pos} {i : Option Nat} {N : Nat} (h : GR ws P i P2) (hP : P.from N) : P2.from N := by
  cases h with
  | bad => trivial
  | none _ => trivial
  | some _ _ => exact Nat.le_succ_of_le hP
end Go.Proofs.YtabfhdmcljdjhaaGreatDoor.Gl
