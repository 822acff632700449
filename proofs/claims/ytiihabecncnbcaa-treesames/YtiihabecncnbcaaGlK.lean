/- The program's characters, Name. -/
import Derived.Test.YtiihabecncnbcaaGlJ
import Derived.Test.YtiihabecncnbcaaGlE
import Derived.Laws.RangeAny
namespace Go.Proofs.Ytiihabecncnbcaa.Gl
open Go.RowKit
set_option linter.unusedVariables false

theorem iter_below (w : World) (s : ByteArray) (p : Nat) : Below w.heap.size w (w.iter s p) := (Below.refl _ _).alloc (Nat.le_refl _) _
theorem next_at (w : World) (s : ByteArray) (p r wd : Nat) (hp : p < s.size) (h1 : (rdS s p).1 = r) (h2 : (rdS s p).2.1 = wd) (ty : TypeId) :
    (Instr.next (.pointer (some ⟨w.heap.size, 0, none⟩)) true ty).run Try.prog (w.iter s p) = .ok (.tuple #[.bool true, .int .i64 p, .int .i32 r]) (w.iter s (p + wd)) := by
  subst h1; subst h2
  exact run_next_any w s p ty hp
theorem ok_of_re {s : ByteArray} {p : Nat} (h : reB ((rdS s p).1 : Nat) = true) : (rdS s p).2.2 = true := by
  unfold rdS at h ⊢
  dsimp only at h ⊢
  by_cases hc : (Utf8.decode s p).1 = 65533
  · rw [hc] at h; exact absurd h (by decide)
  · have : ((Utf8.decode s p).1 == 65533) = false := by simpa using hc
    rw [this]; rfl
set_option maxHeartbeats 2000000 in
theorem name_at (s : ByteArray) (b : Bool) (w : World) (hs : s.size ≤ 9223372036854775807) (hb : b = true ↔ IsName s) :
    Calls Try.prog 22 #[.string s] w fun e w' => e = .returned (.bool b) ∧ Below w.heap.size w w' := by
  have HB : Hid (b = true ↔ IsName s) := hb
  clear hb
  go_enter Try.func22, Try.ntmps22
  go_wp2
  go_loopw [3] (fun m wr => ∃ k : Nat, k ≤ 16 ∧ m = .int .i64 k ∧ wr = w.iter s (pos s k) ∧ Hid (Nms s k)) (fun _ wr => s.size - wr.iterPos w.heap.size)
  case atStart => exact ⟨0, by omega, rfl, rfl, fun j hj => absurd hj (by omega)⟩
  case round =>
    obtain ⟨k, hk16, rfl, rfl, hall⟩ := hrel
    obtain ⟨hg1, hg2⟩ := pos_ge s k hall.out.lt
    by_cases hlt : pos s k < s.size
    · obtain ⟨hb1, hb2, hb3⟩ := rd_bd s (pos s k) hlt
      have HS : Hid (pos s (k + 1) = pos s k + (rdS s (pos s k)).2.1) := pos_succ s k
      have HNO : Hid (¬ (reB ((rdS s (pos s k)).1 : Nat) = true ∧ (k = 0 → stB ((rdS s (pos s k)).1 : Nat) = true)) → b = false) := fun h => by
        cases b with
        | false => rfl
        | true => exact absurd (HB.out.1 rfl) (name_no hlt hall.out.lt (fun h' => h h'.2))
      have HYES : Hid (reB ((rdS s (pos s k)).1 : Nat) = true ∧ (k = 0 → stB ((rdS s (pos s k)).1 : Nat) = true) → Nms s (k + 1)) := fun h j hj => by
        rcases Nat.lt_succ_iff_lt_or_eq.1 hj with hj | rfl
        · exact hall.out j hj
        · exact ⟨hlt, ok_of_re h.1, h⟩
      have H16 : Hid (k = 16 → b = false) := fun h => by
        cases b with
        | false => rfl
        | true =>
          obtain ⟨⟨n, hn, _, h2, _⟩, _⟩ := HB.out.1 rfl
          have hkn : k + 1 ≤ n := cnt_lt hn (fun j hj => by
            rcases Nat.lt_succ_iff_lt_or_eq.1 hj with hj | rfl
            · exact hall.out.lt j hj
            · exact hlt)
          omega
      have hnx := next_at w s (pos s k) _ _ hlt rfl rfl
      generalize hp : pos s k = p at *
      clear hp
      generalize hr : (rdS s p).1 = r at *
      generalize hw : (rdS s p).2.1 = wd at *
      clear hr hw
      by_cases h16 : k = 16
      · have HE : Hid (b = false) := H16.out h16
        subst h16
        clear HNO HYES H16
        go_wp2
        go_ret
        exact ⟨retb HE.out.symm, iter_below _ _ _⟩
      · have hk16' : ((k : Int) == 16) = false := by simp; omega
        have hk17 : k + 1 ≤ 16 := by omega
        have RS : ∀ c, reB (r : Nat) = c → Hid (∀ w, Calls Try.prog 38 #[.int .i32 (r : Nat)] w fun e w' => e = .returned (.bool c) ∧ w = w') := fun c h w => by rw [← h]; exact rest_at r w
        have SS : ∀ c, stB (r : Nat) = c → Hid (∀ w, Calls Try.prog 39 #[.int .i32 (r : Nat)] w fun e w' => e = .returned (.bool c) ∧ w = w') := fun c h w => by rw [← h]; exact start_at r w
        clear h16
        cases hre : reB (r : Nat) with
        | false =>
          have HE : Hid (b = false) := HNO.out (fun h => by have := h.1; rw [hre] at this; cases this)
          have R0 := RS _ hre
          clear SS RS hre HNO HYES H16
          go_wp2_with (go_at_call 38; refine (R0.out _).mono ?_; rintro e w2 ⟨rfl, rfl⟩)
          go_ret
          exact ⟨retb HE.out.symm, iter_below _ _ _⟩
        | true =>
          have R0 := RS _ hre
          rcases Nat.eq_zero_or_pos k with hk | hk
          · subst hk
            cases hst : stB (r : Nat) with
            | false =>
              have HE : Hid (b = false) := HNO.out (fun h => by have := h.2 rfl; rw [hst] at this; cases this)
              have S0 := SS _ hst
              clear SS RS hst hre HNO HYES H16
              go_wp2_with (first
                | (go_at_call 38; refine (R0.out _).mono ?_; rintro e w2 ⟨rfl, rfl⟩)
                | (go_at_call 39; refine (S0.out _).mono ?_; rintro e w2 ⟨rfl, rfl⟩))
              go_ret
              exact ⟨retb HE.out.symm, iter_below _ _ _⟩
            | true =>
              have HY : Hid (Nms s (0 + 1)) := HYES.out ⟨hre, fun _ => hst⟩
              have S0 := SS _ hst
              clear SS RS hst hre HNO HYES H16
              go_wp2_with (first
                | (go_at_call 38; refine (R0.out _).mono ?_; rintro e w2 ⟨rfl, rfl⟩)
                | (go_at_call 39; refine (S0.out _).mono ?_; rintro e w2 ⟨rfl, rfl⟩))
              go_roundw
              case rel => exact ⟨0 + 1, by omega, by go_num, by rw [HS.out], HY⟩
              case measure => simp only [World.iterPos_iter]; omega
          · have hk0 : ((k : Int) == 0) = false := by simp; omega
            have HY : Hid (Nms s (k + 1)) := HYES.out ⟨hre, fun h => by omega⟩
            clear SS RS hre HNO HYES H16
            go_wp2_with (go_at_call 38; refine (R0.out _).mono ?_; rintro e w2 ⟨rfl, rfl⟩)
            go_roundw
            case rel => exact ⟨k + 1, by omega, by go_num, by rw [HS.out], HY⟩
            case measure => simp only [World.iterPos_iter]; omega
    · have HC : Hid (IsCnt s k) := ⟨by omega, hall.out.lt⟩
      have HP : Hid (b = true ↔ 1 ≤ k ∧ rsB s = false) := by
        show _ ↔ _
        rw [HB.out]
        constructor
        · rintro ⟨⟨n, hn, h1, h2, _⟩, h3⟩
          have := cnt_one hn HC.out
          exact ⟨by omega, h3⟩
        · rintro ⟨h1, h3⟩
          exact ⟨⟨k, HC.out, h1, hk16, hall.out⟩, h3⟩
      have hnx := fun ty => run_next_end (P := Try.prog) w s (pos s k) ty hlt
      generalize hp : pos s k = p at *
      clear hp
      by_cases hk : 1 ≤ k
      · have RV : ∀ c, rsB s = c → Hid (∀ w, Calls Try.prog 40 #[.string s] w fun e w' => e = .returned (.bool c) ∧ w = w') := fun c h w => by rw [← h]; exact reserved_at s w
        cases hrs : rsB s with
        | false =>
          have HE : Hid (b = true) := HP.out.2 ⟨hk, hrs⟩
          have R0 := RV _ hrs
          clear RV hrs
          go_wp2_with (go_at_call 40; refine (R0.out _).mono ?_; rintro e w2 ⟨rfl, rfl⟩)
          go_ret
          exact ⟨retb HE.out.symm, iter_below _ _ _⟩
        | true =>
          have HE : Hid (b = false) := by
            cases b with
            | false => rfl
            | true => have := (HP.out.1 rfl).2; rw [hrs] at this; cases this
          have R0 := RV _ hrs
          clear RV hrs
          go_wp2_with (go_at_call 40; refine (R0.out _).mono ?_; rintro e w2 ⟨rfl, rfl⟩)
          go_ret
          exact ⟨retb HE.out.symm, iter_below _ _ _⟩
      · have HE : Hid (b = false) := by
          cases b with
          | false => rfl
          | true => exact absurd (HP.out.1 rfl).1 hk
        obtain rfl : k = 0 := by omega
        clear hk
        go_wp2
        go_ret
        exact ⟨retb HE.out.symm, iter_below _ _ _⟩
end Go.Proofs.Ytiihabecncnbcaa.Gl
