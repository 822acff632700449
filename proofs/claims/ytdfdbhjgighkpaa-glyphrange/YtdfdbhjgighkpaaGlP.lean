/- The walk of GlyphRange. -/
import Derived.Test.YtdfdbhjgighkpaaGlN
import Derived.Test.YtdfdbhjgighkpaaGlO
import Derived.Lib.OthersKept
namespace Go.Proofs.Ytdfdbhjgighkpaa.Gl
open Go.RowKit
set_option linter.unusedVariables false

theorem next_in (w : World) (B : Nat) (s : ByteArray) (p r wd : Nat) (hk : w.heap[B]? = some (.stringIter s p)) (hp : p < s.size) (h1 : (rdS s p).1 = r) (h2 : (rdS s p).2.1 = wd) (ty : TypeId) :
    (Instr.next (.pointer (some ⟨B, 0, none⟩)) true ty).run Try.prog w = .ok (.tuple #[.bool true, .int .i64 p, .int .i32 r]) (w.iterAt B s (p + wd)) := by
  subst h1; subst h2
  exact Lib.run_next_any_at w B s p ty hk hp
theorem it_keep {wn w3 : World} {B : Nat} {o : Obj} (h : wn.heap[B]? = some o) (hb : Below wn.heap.size wn w3) (c : Obj) : (w3.alloc c).heap[B]? = some o := by
  have hlt := (Array.getElem?_eq_some_iff.1 h).1
  have h3 := (hb.block B hlt).trans h
  have hlt3 := (Array.getElem?_eq_some_iff.1 h3).1
  show (w3.heap.push c)[B]? = _
  rw [Array.getElem?_push_lt hlt3]
  rw [← h3, Array.getElem?_eq_getElem hlt3]
set_option maxRecDepth 100000 in
set_option maxHeartbeats 8000000 in
theorem range_walk (s : ByteArray) (w : World) (hs : s.size ≤ 9223372036854775807) :
    Calls Try.prog 7 #[.string s] w fun e w' => e = .returned (.bool true) ∧ Below w.heap.size w w' := by
  obtain ⟨b1, hb1⟩ := bool_for (IsName s)
  obtain ⟨g, hg⟩ := good_is s
  have HB : Hid (b1 = true ↔ IsName s) := hb1
  have HG : Hid (IsGood s g) := hg
  have NM : Hid (∀ w, Calls Try.prog 18 #[.string s] w fun e w' => e = .returned (.bool b1) ∧ Below w.heap.size w w') := fun w => name_at s b1 w hs hb1
  have GD : Hid (∀ w, Calls Try.prog 22 #[.string s] w fun e w' => e = .returned (.int .i64 g) ∧ Below w.heap.size w w') := fun w => good_at s g w hs hg
  clear hb1 hg
  go_enter Try.func7, Try.ntmps7
  go_wp2_with (go_at_call 9; refine (fixed_at _).mono ?_; rintro e w1 ⟨rfl, hB1⟩)
  go_loopw [3, 4, 5] (fun n gd nm wr => ∃ (k gk : Nat) (nb : Bool), n = .int .i64 k ∧ gd = .int .i64 gk ∧ nm = .bool nb ∧ wr.heap[w1.heap.size]? = some (.stringIter s (pos s k)) ∧ Below w1.heap.size w1 wr ∧ Hid (∀ j, j < k → pos s j < s.size) ∧ Hid (Gd s k gk g) ∧ Hid (nb = true ↔ Nms s k)) (fun _ _ _ wr => s.size - wr.iterPos w1.heap.size)
  case atStart => exact ⟨0, s.size, true, rfl, rfl, rfl, World.iter_heap w1 s 0, iter_below _ _ _, fun j hj => absurd hj (by omega), gd_start s g, ⟨fun _ j hj => absurd hj (by omega), fun _ => rfl⟩⟩
  case round =>
    obtain ⟨k, gk, nb, rfl, rfl, rfl, hit, hBr, hall, hgd, hnb⟩ := hrel
    obtain ⟨hg1, hg2⟩ := pos_ge s k hall.out
    have hgk := gd_le hgd.out hg2
    by_cases hlt : pos s k < s.size
    · obtain ⟨hb1, hb2, hb3⟩ := rd_bd s (pos s k) hlt
      have HS : Hid (pos s (k + 1) = pos s k + (rdS s (pos s k)).2.1) := pos_succ s k
      have HA : Hid (∀ j, j < k + 1 → pos s j < s.size) := fun j hj => by
        rcases Nat.lt_succ_iff_lt_or_eq.1 hj with hj | rfl
        · exact hall.out j hj
        · exact hlt
      have HOK : Hid ((rdS s (pos s k)).2.2 = true → Gd s (k + 1) gk g) := gd_ok hgd.out hlt
      have HBAD : Hid ((rdS s (pos s k)).2.2 = false → Gd s (k + 1) (min gk (pos s k)) g) := gd_bad hgd.out HG.out hlt
      have HF : Hid ((rdS s (pos s k)).1 = 65533 → ((rdS s (pos s k)).2.2 = true ↔ Fd s (pos s k))) := rd_fffd s (pos s k) hlt
      have HO : Hid ((rdS s (pos s k)).1 ≠ 65533 → (rdS s (pos s k)).2.2 = true) := rd_ok s (pos s k)
      have HM : Hid (Nms s (k + 1) ↔ nb = true ∧ reB ((rdS s (pos s k)).1 : Nat) = true ∧ (k = 0 → stB ((rdS s (pos s k)).1 : Nat) = true)) := by rw [hnb.out]; exact nms_succ hlt
      have HC : Hid (pos s k + 3 ≤ s.size → (((s.extract (pos s k) (pos s k + 3)).toList == [239, 191, 189]) = true ↔ Fd s (pos s k))) := cut3_iff s (pos s k)
      have AT : Hid (∀ w, Calls Try.prog 24 #[.string s, .int .i64 (pos s k : Nat)] w fun e w' => e = .returned (.tuple #[.agg #[.int .i64 (pos s k : Nat), .int .i64 k], .int .i64 0]) ∧ Below w.heap.size w w') := fun w => at_in s (pos s k) k w hs hg2 (cnt_cut s k hall.out)
      have hnx := next_in wr w1.heap.size s (pos s k) _ _ hit hlt rfl rfl
      have hit2 := Lib.iterAt_heap wr w1.heap.size s (pos s k) (pos s k + (rdS s (pos s k)).2.1) hit
      have hBn := Lib.below_iterAt hBr (k := w1.heap.size) (Nat.le_refl _) s (pos s k + (rdS s (pos s k)).2.1)
      have HIT : Hid (wr.heap[w1.heap.size]? = some (.stringIter s (pos s k))) := hit
      clear hall hgd hnb hit
      generalize hp : pos s k = p at *
      clear hp
      generalize hr : (rdS s p).1 = r at *
      generalize hw : (rdS s p).2.1 = wd at *
      generalize ho : (rdS s p).2.2 = ok at *
      clear hr hw ho
      generalize hwn : wr.iterAt w1.heap.size s (p + wd) = wn at *
      clear hwn
      have RS : ∀ c, reB (r : Nat) = c → Hid (∀ w, Calls Try.prog 12 #[.int .i32 (r : Nat)] w fun e w' => e = .returned (.bool c) ∧ w = w') := fun c h w => by rw [← h]; exact rest_at r w
      have SS : ∀ c, stB (r : Nat) = c → Hid (∀ w, Calls Try.prog 10 #[.int .i32 (r : Nat)] w fun e w' => e = .returned (.bool c) ∧ w = w') := fun c h w => by rw [← h]; exact start_at r w
      cases nb with
      | false =>
        have HN : Hid (false = true ↔ Nms s (k + 1)) := ⟨fun e => (by cases e), fun h => (HM.out.1 h).1⟩
        by_cases h65 : r = 65533
        · subst h65
          have hok := HF.out rfl
          by_cases h3 : p + 3 ≤ s.size
          · have hcut := HC.out h3
            cases ok with
            | true =>
              have HD : Hid (Gd s (k + 1) gk g) := HOK.out rfl
              have hc1 : ((s.extract p (p + 3)).toList == [239, 191, 189]) = true := hcut.2 (hok.1 rfl)
              have h4 : decide ((s.size : Int) - (p : Int) < 3) = false := decide_eq_false (by omega)
              clear RS SS HOK HBAD HF HO HM HC hcut hok
              go_wp2_with (first
                | (go_at_call 24; refine (AT.out _).mono ?_; rintro e w3 ⟨rfl, hB3⟩)
                | (go_at_call 12; refine (R0.out _).mono ?_; rintro e w4 ⟨rfl, rfl⟩)
                | (go_at_call 10; refine (S0.out _).mono ?_; rintro e w4 ⟨rfl, rfl⟩))
              go_roundw
              case rel => exact ⟨k + 1, gk, false, by go_num, rfl, rfl, by rw [HS.out]; exact it_keep hit2 hB3 _, (hBn.trans (hB3.mono hBn.size)).alloc (Nat.le_trans hBn.size hB3.size) _, HA, HD, HN⟩
              case measure => simp only [World.iterPos, it_keep hit2 hB3, HIT.out]; omega
            | false =>
              have HD : Hid (Gd s (k + 1) (min gk p) g) := HBAD.out rfl
              have hc1 : ((s.extract p (p + 3)).toList == [239, 191, 189]) = false := by
                cases hq : ((s.extract p (p + 3)).toList == [239, 191, 189]) with
                | false => rfl
                | true => exact absurd (hok.2 (hcut.1 hq)) (by simp)
              have h4 : decide ((s.size : Int) - (p : Int) < 3) = false := decide_eq_false (by omega)
              clear RS SS HOK HBAD HF HO HM HC hcut hok
              go_wp2_with (first
                | (go_at_call 24; refine (AT.out _).mono ?_; rintro e w3 ⟨rfl, hB3⟩)
                | (go_at_call 12; refine (R0.out _).mono ?_; rintro e w4 ⟨rfl, rfl⟩)
                | (go_at_call 10; refine (S0.out _).mono ?_; rintro e w4 ⟨rfl, rfl⟩))
              go_roundw
              case rel => exact ⟨k + 1, min gk p, false, by go_num, congrArg (Value.int .i64) (by omega), rfl, by rw [HS.out]; exact it_keep hit2 hB3 _, (hBn.trans (hB3.mono hBn.size)).alloc (Nat.le_trans hBn.size hB3.size) _, HA, HD, HN⟩
              case measure => simp only [World.iterPos, it_keep hit2 hB3, HIT.out]; omega
          · obtain rfl : ok = false := by
              cases ok with
              | false => rfl
              | true => exact absurd (hok.1 rfl).1 h3
            have HD : Hid (Gd s (k + 1) (min gk p) g) := HBAD.out rfl
            have h4 : (s.size : Int) - (p : Int) < 3 := by omega
            clear RS SS HOK HBAD HF HO HM HC hok h3
            go_wp2_with (first
              | (go_at_call 24; refine (AT.out _).mono ?_; rintro e w3 ⟨rfl, hB3⟩)
              | (go_at_call 12; refine (R0.out _).mono ?_; rintro e w4 ⟨rfl, rfl⟩)
              | (go_at_call 10; refine (S0.out _).mono ?_; rintro e w4 ⟨rfl, rfl⟩))
            go_roundw
            case rel => exact ⟨k + 1, min gk p, false, by go_num, congrArg (Value.int .i64) (by omega), rfl, by rw [HS.out]; exact it_keep hit2 hB3 _, (hBn.trans (hB3.mono hBn.size)).alloc (Nat.le_trans hBn.size hB3.size) _, HA, HD, HN⟩
            case measure => simp only [World.iterPos, it_keep hit2 hB3, HIT.out]; omega
        · have HD : Hid (Gd s (k + 1) gk g) := HOK.out (HO.out h65)
          have h65' : ((r : Int) == 65533) = false := by simp; omega
          clear RS SS HOK HBAD HF HO HM HC h65
          go_wp2_with (first
            | (go_at_call 24; refine (AT.out _).mono ?_; rintro e w3 ⟨rfl, hB3⟩)
            | (go_at_call 12; refine (R0.out _).mono ?_; rintro e w4 ⟨rfl, rfl⟩)
            | (go_at_call 10; refine (S0.out _).mono ?_; rintro e w4 ⟨rfl, rfl⟩))
          go_roundw
          case rel => exact ⟨k + 1, gk, false, by go_num, rfl, rfl, by rw [HS.out]; exact it_keep hit2 hB3 _, (hBn.trans (hB3.mono hBn.size)).alloc (Nat.le_trans hBn.size hB3.size) _, HA, HD, HN⟩
          case measure => simp only [World.iterPos, it_keep hit2 hB3, HIT.out]; omega
      | true =>
        cases hre : reB (r : Nat) with
        | false =>
          have HN : Hid (false = true ↔ Nms s (k + 1)) := ⟨fun e => (by cases e), fun h => hre ▸ (HM.out.1 h).2.1⟩
          have R0 := RS _ hre
          clear hre
          by_cases h65 : r = 65533
          · subst h65
            have hok := HF.out rfl
            by_cases h3 : p + 3 ≤ s.size
            · have hcut := HC.out h3
              cases ok with
              | true =>
                have HD : Hid (Gd s (k + 1) gk g) := HOK.out rfl
                have hc1 : ((s.extract p (p + 3)).toList == [239, 191, 189]) = true := hcut.2 (hok.1 rfl)
                have h4 : decide ((s.size : Int) - (p : Int) < 3) = false := decide_eq_false (by omega)
                clear RS SS HOK HBAD HF HO HM HC hcut hok
                go_wp2_with (first
                  | (go_at_call 24; refine (AT.out _).mono ?_; rintro e w3 ⟨rfl, hB3⟩)
                  | (go_at_call 12; refine (R0.out _).mono ?_; rintro e w4 ⟨rfl, rfl⟩)
                  | (go_at_call 10; refine (S0.out _).mono ?_; rintro e w4 ⟨rfl, rfl⟩))
                go_roundw
                case rel => exact ⟨k + 1, gk, false, by go_num, rfl, rfl, by rw [HS.out]; exact it_keep hit2 hB3 _, (hBn.trans (hB3.mono hBn.size)).alloc (Nat.le_trans hBn.size hB3.size) _, HA, HD, HN⟩
                case measure => simp only [World.iterPos, it_keep hit2 hB3, HIT.out]; omega
              | false =>
                have HD : Hid (Gd s (k + 1) (min gk p) g) := HBAD.out rfl
                have hc1 : ((s.extract p (p + 3)).toList == [239, 191, 189]) = false := by
                  cases hq : ((s.extract p (p + 3)).toList == [239, 191, 189]) with
                  | false => rfl
                  | true => exact absurd (hok.2 (hcut.1 hq)) (by simp)
                have h4 : decide ((s.size : Int) - (p : Int) < 3) = false := decide_eq_false (by omega)
                clear RS SS HOK HBAD HF HO HM HC hcut hok
                go_wp2_with (first
                  | (go_at_call 24; refine (AT.out _).mono ?_; rintro e w3 ⟨rfl, hB3⟩)
                  | (go_at_call 12; refine (R0.out _).mono ?_; rintro e w4 ⟨rfl, rfl⟩)
                  | (go_at_call 10; refine (S0.out _).mono ?_; rintro e w4 ⟨rfl, rfl⟩))
                go_roundw
                case rel => exact ⟨k + 1, min gk p, false, by go_num, congrArg (Value.int .i64) (by omega), rfl, by rw [HS.out]; exact it_keep hit2 hB3 _, (hBn.trans (hB3.mono hBn.size)).alloc (Nat.le_trans hBn.size hB3.size) _, HA, HD, HN⟩
                case measure => simp only [World.iterPos, it_keep hit2 hB3, HIT.out]; omega
            · obtain rfl : ok = false := by
                cases ok with
                | false => rfl
                | true => exact absurd (hok.1 rfl).1 h3
              have HD : Hid (Gd s (k + 1) (min gk p) g) := HBAD.out rfl
              have h4 : (s.size : Int) - (p : Int) < 3 := by omega
              clear RS SS HOK HBAD HF HO HM HC hok h3
              go_wp2_with (first
                | (go_at_call 24; refine (AT.out _).mono ?_; rintro e w3 ⟨rfl, hB3⟩)
                | (go_at_call 12; refine (R0.out _).mono ?_; rintro e w4 ⟨rfl, rfl⟩)
                | (go_at_call 10; refine (S0.out _).mono ?_; rintro e w4 ⟨rfl, rfl⟩))
              go_roundw
              case rel => exact ⟨k + 1, min gk p, false, by go_num, congrArg (Value.int .i64) (by omega), rfl, by rw [HS.out]; exact it_keep hit2 hB3 _, (hBn.trans (hB3.mono hBn.size)).alloc (Nat.le_trans hBn.size hB3.size) _, HA, HD, HN⟩
              case measure => simp only [World.iterPos, it_keep hit2 hB3, HIT.out]; omega
          · have HD : Hid (Gd s (k + 1) gk g) := HOK.out (HO.out h65)
            have h65' : ((r : Int) == 65533) = false := by simp; omega
            clear RS SS HOK HBAD HF HO HM HC h65
            go_wp2_with (first
              | (go_at_call 24; refine (AT.out _).mono ?_; rintro e w3 ⟨rfl, hB3⟩)
              | (go_at_call 12; refine (R0.out _).mono ?_; rintro e w4 ⟨rfl, rfl⟩)
              | (go_at_call 10; refine (S0.out _).mono ?_; rintro e w4 ⟨rfl, rfl⟩))
            go_roundw
            case rel => exact ⟨k + 1, gk, false, by go_num, rfl, rfl, by rw [HS.out]; exact it_keep hit2 hB3 _, (hBn.trans (hB3.mono hBn.size)).alloc (Nat.le_trans hBn.size hB3.size) _, HA, HD, HN⟩
            case measure => simp only [World.iterPos, it_keep hit2 hB3, HIT.out]; omega
        | true =>
          have R0 := RS _ hre
          rcases Nat.eq_zero_or_pos k with hk | hk
          · subst hk
            cases hst : stB (r : Nat) with
            | false =>
              have HN : Hid (false = true ↔ Nms s (0 + 1)) := ⟨fun e => (by cases e), fun h => hst ▸ (HM.out.1 h).2.2 rfl⟩
              have S0 := SS _ hst
              by_cases h65 : r = 65533
              · subst h65; exact absurd hre (by decide)
              · have HD : Hid (Gd s (0 + 1) gk g) := HOK.out (HO.out h65)
                have h65' : ((r : Int) == 65533) = false := by simp; omega
                clear hre hst RS SS HOK HBAD HF HO HM HC h65
                go_wp2_with (first
                  | (go_at_call 24; refine (AT.out _).mono ?_; rintro e w3 ⟨rfl, hB3⟩)
                  | (go_at_call 12; refine (R0.out _).mono ?_; rintro e w4 ⟨rfl, rfl⟩)
                  | (go_at_call 10; refine (S0.out _).mono ?_; rintro e w4 ⟨rfl, rfl⟩))
                go_roundw
                case rel => exact ⟨0 + 1, gk, false, by go_num, rfl, rfl, by rw [HS.out]; exact it_keep hit2 hB3 _, (hBn.trans (hB3.mono hBn.size)).alloc (Nat.le_trans hBn.size hB3.size) _, HA, HD, HN⟩
                case measure => simp only [World.iterPos, it_keep hit2 hB3, HIT.out]; omega
            | true =>
              have HN : Hid (Nms s (0 + 1)) := HM.out.2 ⟨rfl, hre, fun _ => hst⟩
              have S0 := SS _ hst
              by_cases h65 : r = 65533
              · subst h65; exact absurd hre (by decide)
              · have HD : Hid (Gd s (0 + 1) gk g) := HOK.out (HO.out h65)
                have h65' : ((r : Int) == 65533) = false := by simp; omega
                clear hre hst RS SS HOK HBAD HF HO HM HC h65
                go_wp2_with (first
                  | (go_at_call 24; refine (AT.out _).mono ?_; rintro e w3 ⟨rfl, hB3⟩)
                  | (go_at_call 12; refine (R0.out _).mono ?_; rintro e w4 ⟨rfl, rfl⟩)
                  | (go_at_call 10; refine (S0.out _).mono ?_; rintro e w4 ⟨rfl, rfl⟩))
                go_roundw
                case rel => exact ⟨0 + 1, gk, true, by go_num, rfl, rfl, by rw [HS.out]; exact it_keep hit2 hB3 _, (hBn.trans (hB3.mono hBn.size)).alloc (Nat.le_trans hBn.size hB3.size) _, HA, HD, ⟨fun _ => HN.out, fun _ => rfl⟩⟩
                case measure => simp only [World.iterPos, it_keep hit2 hB3, HIT.out]; omega
          · have HN : Hid (Nms s (k + 1)) := HM.out.2 ⟨rfl, hre, fun h => by omega⟩
            have hk' : decide (0 < k) = true := decide_eq_true hk
            by_cases h65 : r = 65533
            · subst h65; exact absurd hre (by decide)
            · have HD : Hid (Gd s (k + 1) gk g) := HOK.out (HO.out h65)
              have h65' : ((r : Int) == 65533) = false := by simp; omega
              clear hre RS SS HOK HBAD HF HO HM HC h65
              go_wp2_with (first
                | (go_at_call 24; refine (AT.out _).mono ?_; rintro e w3 ⟨rfl, hB3⟩)
                | (go_at_call 12; refine (R0.out _).mono ?_; rintro e w4 ⟨rfl, rfl⟩)
                | (go_at_call 10; refine (S0.out _).mono ?_; rintro e w4 ⟨rfl, rfl⟩))
              go_roundw
              case rel => exact ⟨k + 1, gk, true, by go_num, rfl, rfl, by rw [HS.out]; exact it_keep hit2 hB3 _, (hBn.trans (hB3.mono hBn.size)).alloc (Nat.le_trans hBn.size hB3.size) _, HA, HD, ⟨fun _ => HN.out, fun _ => rfl⟩⟩
              case measure => simp only [World.iterPos, it_keep hit2 hB3, HIT.out]; omega
    · have he : pos s k = s.size := by omega
      have hcnt : IsCnt s k := ⟨he, hall.out⟩
      have hni := HB.out.trans (name_iff hcnt)
      have hgg := gd_end hgd.out HG.out he
      have HQ : Hid (b1 = true ↔ nb = true ∧ 1 ≤ k ∧ k ≤ 16 ∧ rsB s = false) := by rw [hnb.out]; exact hni
      have AT : Hid (∀ w, Calls Try.prog 24 #[.string s, .int .i64 (s.size : Nat)] w fun e w' => e = .returned (.tuple #[.agg #[.int .i64 (s.size : Nat), .int .i64 k], .int .i64 0]) ∧ Below w.heap.size w w') := fun w => at_in s s.size k w hs (Nat.le_refl _) (by rw [ByteArray.extract_zero_size]; exact hcnt)
      have hnx := fun ty => Lib.run_next_end_at (P := Try.prog) wr w1.heap.size s (pos s k) ty hit hlt
      have RV : ∀ c, rsB s = c → Hid (∀ w, Calls Try.prog 20 #[.string s] w fun e w' => e = .returned (.bool c) ∧ w = w') := fun c h w => by rw [← h]; exact reserved_at s w
      have hk16 : k ≤ s.size := by omega
      subst hgg
      clear hni hcnt he hit hgd hnb hall HG HB
      generalize hp : pos s k = p at *
      clear hp
      cases nb with
      | false =>
        obtain rfl : b1 = false := (by
          cases hq : b1 with
          | false => rfl
          | true =>
            obtain ⟨f1, f2, f3, f4⟩ := HQ.out.1 hq
            first | exact absurd f1 (by decide) | omega | (rw [hrs] at f4; cases f4))
        clear HQ RV
        go_wp2_with (first
          | (go_at_call 24; refine (AT.out _).mono ?_; rintro e w3 ⟨rfl, hB3⟩)
          | (go_at_call 22; refine (GD.out _).mono ?_; rintro e w4 ⟨rfl, hB4⟩)
          | (go_at_call 18; refine (NM.out _).mono ?_; rintro e w5 ⟨rfl, hB5⟩)
          | (go_at_call 20; refine (R0.out _).mono ?_; rintro e w6 ⟨rfl, rfl⟩))
        go_ret
        exact ⟨rfl, bt2 (bt2 (bta (bt2 (bt2 hB1 hBr) hB3) _) hB4) hB5⟩
      | true =>
        by_cases hk : 1 ≤ k
        · have hk' : decide (0 < k) = true := decide_eq_true (by omega)
          by_cases hk2 : k ≤ 16
          · cases hrs : rsB s with
            | false =>
              have R0 := RV _ hrs
              obtain rfl : b1 = true := HQ.out.2 ⟨rfl, hk, hk2, hrs⟩
              clear HQ RV hrs
              go_wp2_with (first
                | (go_at_call 24; refine (AT.out _).mono ?_; rintro e w3 ⟨rfl, hB3⟩)
                | (go_at_call 22; refine (GD.out _).mono ?_; rintro e w4 ⟨rfl, hB4⟩)
                | (go_at_call 18; refine (NM.out _).mono ?_; rintro e w5 ⟨rfl, hB5⟩)
                | (go_at_call 20; refine (R0.out _).mono ?_; rintro e w6 ⟨rfl, rfl⟩))
              go_ret
              exact ⟨rfl, bt2 (bt2 (bta (bt2 (bt2 hB1 hBr) hB3) _) hB4) hB5⟩
            | true =>
              have R0 := RV _ hrs
              obtain rfl : b1 = false := (by
                cases hq : b1 with
                | false => rfl
                | true =>
                  obtain ⟨f1, f2, f3, f4⟩ := HQ.out.1 hq
                  first | exact absurd f1 (by decide) | omega | (rw [hrs] at f4; cases f4))
              clear HQ RV hrs
              go_wp2_with (first
                | (go_at_call 24; refine (AT.out _).mono ?_; rintro e w3 ⟨rfl, hB3⟩)
                | (go_at_call 22; refine (GD.out _).mono ?_; rintro e w4 ⟨rfl, hB4⟩)
                | (go_at_call 18; refine (NM.out _).mono ?_; rintro e w5 ⟨rfl, hB5⟩)
                | (go_at_call 20; refine (R0.out _).mono ?_; rintro e w6 ⟨rfl, rfl⟩))
              go_ret
              exact ⟨rfl, bt2 (bt2 (bta (bt2 (bt2 hB1 hBr) hB3) _) hB4) hB5⟩
          · have hk3 : decide (k ≤ 16) = false := decide_eq_false hk2
            obtain rfl : b1 = false := (by
              cases hq : b1 with
              | false => rfl
              | true =>
                obtain ⟨f1, f2, f3, f4⟩ := HQ.out.1 hq
                first | exact absurd f1 (by decide) | omega | (rw [hrs] at f4; cases f4))
            clear HQ RV
            go_wp2_with (first
              | (go_at_call 24; refine (AT.out _).mono ?_; rintro e w3 ⟨rfl, hB3⟩)
              | (go_at_call 22; refine (GD.out _).mono ?_; rintro e w4 ⟨rfl, hB4⟩)
              | (go_at_call 18; refine (NM.out _).mono ?_; rintro e w5 ⟨rfl, hB5⟩)
              | (go_at_call 20; refine (R0.out _).mono ?_; rintro e w6 ⟨rfl, rfl⟩))
            go_ret
            exact ⟨rfl, bt2 (bt2 (bta (bt2 (bt2 hB1 hBr) hB3) _) hB4) hB5⟩
        · obtain rfl : k = 0 := by omega
          obtain rfl : b1 = false := (by
            cases hq : b1 with
            | false => rfl
            | true =>
              obtain ⟨f1, f2, f3, f4⟩ := HQ.out.1 hq
              first | exact absurd f1 (by decide) | omega | (rw [hrs] at f4; cases f4))
          clear HQ RV
          go_wp2_with (first
            | (go_at_call 24; refine (AT.out _).mono ?_; rintro e w3 ⟨rfl, hB3⟩)
            | (go_at_call 22; refine (GD.out _).mono ?_; rintro e w4 ⟨rfl, hB4⟩)
            | (go_at_call 18; refine (NM.out _).mono ?_; rintro e w5 ⟨rfl, hB5⟩)
            | (go_at_call 20; refine (R0.out _).mono ?_; rintro e w6 ⟨rfl, rfl⟩))
          go_ret
          exact ⟨rfl, bt2 (bt2 (bta (bt2 (bt2 hB1 hBr) hB3) _) hB4) hB5⟩
end Go.Proofs.Ytdfdbhjgighkpaa.Gl
