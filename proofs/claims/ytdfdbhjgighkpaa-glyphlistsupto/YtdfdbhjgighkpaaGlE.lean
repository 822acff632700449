/- The document's Good, Name. -/
import Derived.Test.YtdfdbhjgighkpaaGlD
namespace Go.Proofs.Ytdfdbhjgighkpaa.Gl
open Go.RowKit
set_option linter.unusedVariables false

theorem read_is (s : ByteArray) (p r wd : Nat) (ok : Bool) (w : World) (hs : s.size ≤ 9223372036854775807) (hp : p < s.size) (h : rdS s p = (r, wd, ok)) :
    Calls Try.prog 38 #[.string s, .int .i64 p] w fun e w' => e = .returned (.tuple #[.int .i64 (r : Nat), .int .i64 (wd : Nat), .bool ok]) ∧ w = w' := by
  have := read_at s p w hs hp
  unfold Reads at this
  rw [h] at this
  exact this
/-- characters 0 .. k - 1 are characters -/
def Oks (s : ByteArray) (k : Nat) : Prop := ∀ j, j < k → pos s j < s.size ∧ (rdS s (pos s j)).2.2 = true
theorem Oks.lt {s : ByteArray} {k : Nat} (h : Oks s k) : ∀ j, j < k → pos s j < s.size := fun j hj => (h j hj).1
/-- the first wrong byte, or the end -/
def IsGood (s : ByteArray) (g : Nat) : Prop := ∃ k, pos s k = g ∧ Oks s k ∧ (g = s.size ∨ (g < s.size ∧ (rdS s g).2.2 = false))
theorem good_one {s : ByteArray} {g h : Nat} (a : IsGood s g) (b : IsGood s h) : g = h := by
  obtain ⟨k, rfl, ok, e⟩ := a
  obtain ⟨m, rfl, om, f⟩ := b
  rcases Nat.lt_trichotomy k m with hlt | rfl | hlt
  · have := om k hlt
    rcases e with e | ⟨_, e⟩
    · omega
    · rw [e] at this; cases this.2
  · rfl
  · have := ok m hlt
    rcases f with f | ⟨_, f⟩
    · omega
    · rw [f] at this; cases this.2
set_option maxHeartbeats 1000000 in
theorem rgood_at (s : ByteArray) (g : Nat) (w : World) (hs : s.size ≤ 9223372036854775807) (hg : IsGood s g) :
    Calls Try.prog 23 #[.string s] w fun e w' => e = .returned (.int .i64 g) ∧ w = w' := by
  have HG : Hid (IsGood s g) := hg
  clear hg
  go_enter Try.func23, Try.ntmps23
  go_wp2
  go_loop [3] (fun i => ∃ k : Nat, i = .int .i64 (pos s k : Nat) ∧ Hid (Oks s k)) (fun i => s.size - (intOf i).toNat)
  case atStart => exact ⟨0, rfl, fun j hj => absurd hj (by omega)⟩
  case round =>
    obtain ⟨k, rfl, hall⟩ := hrel
    obtain ⟨hg1, hg2⟩ := pos_ge s k hall.out.lt
    by_cases hlt : pos s k < s.size
    · obtain ⟨hb1, hb2, hb3⟩ := rd_bd s (pos s k) hlt
      have HS : Hid (pos s (k + 1) = pos s k + (rdS s (pos s k)).2.1) := pos_succ s k
      have RD := fun r wd ok => read_is s (pos s k) r wd ok w hs hlt
      obtain ⟨⟨r, wd, ok⟩, hr⟩ : ∃ R, rdS s (pos s k) = R := ⟨_, rfl⟩
      have RD' := RD r wd ok hr
      rw [hr] at hb1 hb2 HS
      dsimp only at hb1 hb2 HS
      clear RD hb3
      cases ok with
      | true =>
        have HA : Hid (Oks s (k + 1)) := fun j hj => by
          rcases Nat.lt_succ_iff_lt_or_eq.1 hj with hj | rfl
          · exact hall.out j hj
          · exact ⟨hlt, by rw [hr]⟩
        have HD : Hid (Calls Try.prog 38 #[.string s, .int .i64 (pos s k : Nat)] w fun e w' => e = .returned (.tuple #[.int .i64 (r : Nat), .int .i64 (wd : Nat), .bool true]) ∧ w = w') := RD'
        clear RD' hr
        generalize hp : pos s k = p at *
        clear hp
        go_wp2_with (go_at_call 38; refine HD.out.mono ?_; rintro e w' ⟨rfl, rfl⟩)
        go_round
        case rel => exact ⟨k + 1, congrArg (Value.int .i64) (by rw [HS.out]; omega), HA⟩
        case measure => simp [intOf]; omega
      | false =>
        have HE : Hid (((pos s k : Nat) : Int) = (g : Int)) := by
          have := good_one HG.out ⟨k, rfl, hall.out, .inr ⟨hlt, by rw [hr]⟩⟩
          show _ = _
          omega
        have HD : Hid (Calls Try.prog 38 #[.string s, .int .i64 (pos s k : Nat)] w fun e w' => e = .returned (.tuple #[.int .i64 (r : Nat), .int .i64 (wd : Nat), .bool false]) ∧ w = w') := RD'
        clear RD' hr
        generalize hp : pos s k = p at *
        clear hp
        go_wp2_with (go_at_call 38; refine HD.out.mono ?_; rintro e w' ⟨rfl, rfl⟩)
        go_ret
        exact ⟨ret1 HE.out, rfl⟩
    · have HE : Hid (((pos s k : Nat) : Int) = (g : Int)) := by
        have := good_one HG.out ⟨k, rfl, hall.out, .inl (by omega)⟩
        show _ = _
        omega
      go_wp2
      go_ret
      exact ⟨ret1 HE.out, rfl⟩
/-- characters 0 .. k - 1 may stand in a name, the first one at its beginning -/
def Nms (s : ByteArray) (k : Nat) : Prop := ∀ j, j < k → pos s j < s.size ∧ (rdS s (pos s j)).2.2 = true ∧ reB ((rdS s (pos s j)).1 : Nat) = true ∧ (j = 0 → stB ((rdS s (pos s j)).1 : Nat) = true)
theorem Nms.lt {s : ByteArray} {k : Nat} (h : Nms s k) : ∀ j, j < k → pos s j < s.size := fun j hj => (h j hj).1
def IsName (s : ByteArray) : Prop := (∃ n, IsCnt s n ∧ 1 ≤ n ∧ n ≤ 16 ∧ Nms s n) ∧ rsB s = false
theorem name_no {s : ByteArray} {k : Nat} (hk : pos s k < s.size) (hall : ∀ j, j < k → pos s j < s.size) (h : ¬ ((rdS s (pos s k)).2.2 = true ∧ reB ((rdS s (pos s k)).1 : Nat) = true ∧ (k = 0 → stB ((rdS s (pos s k)).1 : Nat) = true))) : ¬ IsName s := by
  rintro ⟨⟨n, hn, _, _, hm⟩, _⟩
  have hkn : k + 1 ≤ n := cnt_lt hn (fun j hj => by
    rcases Nat.lt_succ_iff_lt_or_eq.1 hj with hj | rfl
    · exact hall j hj
    · exact hk)
  have := hm k (by omega)
  exact h this.2
theorem reB_of {r : Int} (h : stB r = true) : reB r = true := by unfold reB; rw [h]; rfl
set_option maxHeartbeats 2000000 in
theorem rname_at (s : ByteArray) (b : Bool) (w : World) (hs : s.size ≤ 9223372036854775807) (hb : b = true ↔ IsName s) :
    Calls Try.prog 19 #[.string s] w fun e w' => e = .returned (.bool b) ∧ Below w.heap.size w w' := by
  have HB : Hid (b = true ↔ IsName s) := hb
  clear hb
  go_enter Try.func19, Try.ntmps19
  go_wp2
  go_loopw [3, 4] (fun m i wr => ∃ k : Nat, m = .int .i64 k ∧ i = .int .i64 (pos s k : Nat) ∧ Hid (Nms s k) ∧ Below w.heap.size w wr) (fun _ i _ => s.size - (intOf i).toNat)
  case atStart => exact ⟨0, rfl, rfl, fun j hj => absurd hj (by omega), Below.refl _ _⟩
  case round =>
    obtain ⟨k, rfl, rfl, hall, hB⟩ := hrel
    obtain ⟨hg1, hg2⟩ := pos_ge s k hall.out.lt
    by_cases hlt : pos s k < s.size
    · obtain ⟨hb1, hb2, hb3⟩ := rd_bd s (pos s k) hlt
      have HS : Hid (pos s (k + 1) = pos s k + (rdS s (pos s k)).2.1) := pos_succ s k
      have HNO : Hid (¬ ((rdS s (pos s k)).2.2 = true ∧ reB ((rdS s (pos s k)).1 : Nat) = true ∧ (k = 0 → stB ((rdS s (pos s k)).1 : Nat) = true)) → b = false) := fun h => by
        cases b with
        | false => rfl
        | true => exact absurd (HB.out.1 rfl) (name_no hlt hall.out.lt h)
      have HYES : Hid ((rdS s (pos s k)).2.2 = true ∧ reB ((rdS s (pos s k)).1 : Nat) = true ∧ (k = 0 → stB ((rdS s (pos s k)).1 : Nat) = true) → Nms s (k + 1)) := fun h j hj => by
        rcases Nat.lt_succ_iff_lt_or_eq.1 hj with hj | rfl
        · exact hall.out j hj
        · exact ⟨hlt, h⟩
      obtain ⟨⟨r, wd, ok⟩, hr⟩ : ∃ R, rdS s (pos s k) = R := ⟨_, rfl⟩
      have RD : Hid (∀ w, Calls Try.prog 38 #[.string s, .int .i64 (pos s k : Nat)] w fun e w' => e = .returned (.tuple #[.int .i64 (r : Nat), .int .i64 (wd : Nat), .bool ok]) ∧ w = w') := fun w => read_is s (pos s k) r wd ok w hs hlt hr
      rw [hr] at hb1 hb2 HS HNO HYES
      dsimp only at hb1 hb2 HS HNO HYES
      clear hb3 hr
      generalize hp : pos s k = p at *
      clear hp
      cases hok : ok with
      | false =>
        subst hok
        have HE : Hid (b = false) := HNO.out (fun h => by cases h.1)
        go_wp2_with (go_at_call 38; refine (RD.out _).mono ?_; rintro e w' ⟨rfl, rfl⟩)
        go_ret
        exact ⟨retb HE.out.symm, hB⟩
      | true =>
        subst hok
        have RS : ∀ c, reB (r : Nat) = c → Hid (∀ w, Calls Try.prog 13 #[.int .i64 (r : Nat)] w fun e w' => e = .returned (.bool c) ∧ Below w.heap.size w w') := fun c h w => by rw [← h]; exact rrest_at r w
        have SS : ∀ c, stB (r : Nat) = c → Hid (∀ w, Calls Try.prog 11 #[.int .i64 (r : Nat)] w fun e w' => e = .returned (.bool c) ∧ Below w.heap.size w w') := fun c h w => by rw [← h]; exact rstart_at r w
        rcases Nat.eq_zero_or_pos k with hk | hk
        · subst hk
          cases hst : stB (r : Nat) with
          | false =>
            have HE : Hid (b = false) := HNO.out (fun h => by have := h.2.2 rfl; rw [hst] at this; cases this)
            have S0 := SS _ hst
            clear SS RS hst HNO HYES
            go_wp2_with (first
              | (go_at_call 38; refine (RD.out _).mono ?_; rintro e w' ⟨rfl, rfl⟩)
              | (go_at_call 11; refine (S0.out _).mono ?_; rintro e w1 ⟨rfl, hB1⟩))
            go_ret
            exact ⟨retb HE.out.symm, hB.trans (hB1.mono hB.size)⟩
          | true =>
            have HY : Hid (Nms s (0 + 1)) := HYES.out ⟨rfl, reB_of hst, fun _ => hst⟩
            have S0 := SS _ hst
            have R0 := RS _ (reB_of hst)
            clear SS RS hst HNO HYES
            go_wp2_with (first
              | (go_at_call 38; refine (RD.out _).mono ?_; rintro e w' ⟨rfl, rfl⟩)
              | (go_at_call 11; refine (S0.out _).mono ?_; rintro e w1 ⟨rfl, hB1⟩)
              | (go_at_call 13; refine (R0.out _).mono ?_; rintro e w2 ⟨rfl, hB2⟩))
            go_roundw
            case rel => exact ⟨0 + 1, by go_num, congrArg (Value.int .i64) (by rw [HS.out]; omega), HY, (hB.trans (hB1.mono hB.size)).trans (hB2.mono (Nat.le_trans hB.size hB1.size))⟩
            case measure => simp [intOf]; omega
        · have hk0 : ((k : Int) == 0) = false := by simp; omega
          cases hre : reB (r : Nat) with
          | false =>
            have HE : Hid (b = false) := HNO.out (fun h => by have := h.2.1; rw [hre] at this; cases this)
            have R0 := RS _ hre
            clear SS RS hre HNO HYES
            go_wp2_with (first
              | (go_at_call 38; refine (RD.out _).mono ?_; rintro e w' ⟨rfl, rfl⟩)
              | (go_at_call 13; refine (R0.out _).mono ?_; rintro e w2 ⟨rfl, hB2⟩))
            go_ret
            exact ⟨retb HE.out.symm, hB.trans (hB2.mono hB.size)⟩
          | true =>
            have HY : Hid (Nms s (k + 1)) := HYES.out ⟨rfl, hre, fun h => by omega⟩
            have R0 := RS _ hre
            clear SS RS hre HNO HYES
            go_wp2_with (first
              | (go_at_call 38; refine (RD.out _).mono ?_; rintro e w' ⟨rfl, rfl⟩)
              | (go_at_call 13; refine (R0.out _).mono ?_; rintro e w2 ⟨rfl, hB2⟩))
            go_roundw
            case rel => exact ⟨k + 1, by go_num, congrArg (Value.int .i64) (by rw [HS.out]; omega), HY, hB.trans (hB2.mono hB.size)⟩
            case measure => simp [intOf]; omega
    · have HC : Hid (IsCnt s k) := ⟨by omega, hall.out.lt⟩
      have HP : Hid (b = true ↔ (1 ≤ k ∧ k ≤ 16) ∧ rsB s = false) := by
        show _ ↔ _
        rw [HB.out]
        constructor
        · rintro ⟨⟨n, hn, h1, h2, _⟩, h3⟩
          have := cnt_one hn HC.out
          exact ⟨by omega, h3⟩
        · rintro ⟨⟨h1, h2⟩, h3⟩
          exact ⟨⟨k, HC.out, h1, h2, hall.out⟩, h3⟩
      by_cases hk : 1 ≤ k ∧ k ≤ 16
      · obtain ⟨hk1, hk2⟩ := hk
        have RV : ∀ c, rsB s = c → Hid (∀ w, Calls Try.prog 21 #[.string s] w fun e w' => e = .returned (.bool c) ∧ Below w.heap.size w w') := fun c h w => by rw [← h]; exact rreserved_at s w
        cases hrs : rsB s with
        | false =>
          have HE : Hid (b = true) := HP.out.2 ⟨⟨hk1, hk2⟩, hrs⟩
          have R0 := RV _ hrs
          clear RV hrs
          go_wp2_with (go_at_call 21; refine (R0.out _).mono ?_; rintro e w2 ⟨rfl, hB2⟩)
          go_ret
          exact ⟨retb HE.out.symm, hB.trans (hB2.mono hB.size)⟩
        | true =>
          have HE : Hid (b = false) := by
            cases b with
            | false => rfl
            | true => have := (HP.out.1 rfl).2; rw [hrs] at this; cases this
          have R0 := RV _ hrs
          clear RV hrs
          go_wp2_with (go_at_call 21; refine (R0.out _).mono ?_; rintro e w2 ⟨rfl, hB2⟩)
          go_ret
          exact ⟨retb HE.out.symm, hB.trans (hB2.mono hB.size)⟩
      · have HE : Hid (b = false) := by
          cases b with
          | false => rfl
          | true => exact absurd (HP.out.1 rfl).1 hk
        by_cases hk1 : k < 1
        all_goals try (have hk2 : 16 < k := by omega)
        all_goals
          clear hk
          go_wp2
          go_ret
          exact ⟨retb HE.out.symm, hB⟩
end Go.Proofs.Ytdfdbhjgighkpaa.Gl
