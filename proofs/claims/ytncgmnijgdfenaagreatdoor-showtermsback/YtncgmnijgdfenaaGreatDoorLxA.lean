/- The document's Good, Name. -/
import Derived.Test.YtncgmnijgdfenaaGreatDoorGlD
import Derived.Laws.Strings
import Derived.Test.YtncgmnijgdfenaaGreatDoorGlJ
namespace Go.Proofs.YtncgmnijgdfenaaGreatDoor.Gl
open Go.RowKit
set_option linter.unusedVariables false

theorem read_is (s : ByteArray) (p r wd : Nat) (ok : Bool) (w : World) (hs : s.size ≤ 9223372036854775807) (hp : p < s.size) (h : rdS s p = (r, wd, ok)) :
    Calls Tryz.prog 82 #[.string s, .int .i64 p] w fun e w' => e = .returned (.tuple #[.int .i64 (r : Nat), .int .i64 (wd : Nat), .bool ok]) ∧ w = w' := by
  have := read_at s p w hs hp
  unfold Reads at this
  rw [h] at this
  exact this
/-- characters 0 .. k - 1 are characters -/
def Oks (s : ByteArray) (k : Nat) : Prop := ∀ j, j < k → pos s j < s.size ∧ (rdS s (pos s j)).2.2 = true
theorem Oks.lt {s : ByteArray} {k : Nat} (h : Oks s k) : ∀ j, j < k → pos s j < s.size := fun j hj => (h j hj).1
/-- the first wrong byte, or the end -/
def IsGood (s : ByteArray) (g : Nat) : Prop := ∃ k, pos s k = g ∧ Oks s k ∧ (g = s.size ∨ (g < s.size ∧ (rdS s g).2.2 = false))
theorem good_one {s : ByteArray} {g h : Nat} (a : IsGood s g) (b : IsGood s h) : g = h := by
  obtain ⟨k, rfl, ok, e⟩ := a
  obtain ⟨m, rfl, om, f⟩ := b
  rcases Nat.lt_trichotomy k m with hlt | rfl | hlt
  · have := om k hlt
    rcases e with e | ⟨_, e⟩
    · omega
    · rw [e] at this; cases this.2
  · rfl
  · have := ok m hlt
    rcases f with f | ⟨_, f⟩
    · omega
    · rw [f] at this; cases this.2
/-- characters 0 .. k - 1 may stand in a name, the first one at its beginning -/
def Nms (s : ByteArray) (k : Nat) : Prop := ∀ j, j < k → pos s j < s.size ∧ (rdS s (pos s j)).2.2 = true ∧ reB ((rdS s (pos s j)).1 : Nat) = true ∧ (j = 0 → stB ((rdS s (pos s j)).1 : Nat) = true)
theorem Nms.lt {s : ByteArray} {k : Nat} (h : Nms s k) : ∀ j, j < k → pos s j < s.size := fun j hj => (h j hj).1
def IsName (s : ByteArray) : Prop := (∃ n, IsCnt s n ∧ 1 ≤ n ∧ n ≤ 16 ∧ Nms s n) ∧ rsB s = false
theorem name_no {s : ByteArray} {k : Nat} (hk : pos s k < s.size) (hall : ∀ j, j < k → pos s j < s.size) (h : ¬ ((rdS s (pos s k)).2.2 = true ∧ reB ((rdS s (pos s k)).1 : Nat) = true ∧ (k = 0 → stB ((rdS s (pos s k)).1 : Nat) = true))) : ¬ IsName s := by
  rintro ⟨⟨n, hn, _, _, hm⟩, _⟩
  have hkn : k + 1 ≤ n := cnt_lt hn (fun j hj => by
    rcases Nat.lt_succ_iff_lt_or_eq.1 hj with hj | rfl
    · exact hall j hj
    · exact hk)
  have := hm k (by omega)
  exact h this.2
theorem reB_of {r : Int} (h : stB r = true) : reB r = true := by unfold reB; rw [h]; rfl
set_option maxHeartbeats 2000000 in
theorem rname_at (s : ByteArray) (b : Bool) (w : World) (hs : s.size ≤ 9223372036854775807) (hb : b = true ↔ IsName s) :
    Calls Tryz.prog 65 #[.string s] w fun e w' => e = .returned (.bool b) ∧ Below w.heap.size w w' := by
  have HB : Hid (b = true ↔ IsName s) := hb
  clear hb
  go_enter Tryz.func65, Tryz.ntmps65
  go_wp2
  go_loopw [3, 4] (fun m i wr => ∃ k : Nat, m = .int .i64 k ∧ i = .int .i64 (pos s k : Nat) ∧ Hid (Nms s k) ∧ Below w.heap.size w wr) (fun _ i _ => s.size - (intOf i).toNat)
  case atStart => exact ⟨0, rfl, rfl, fun j hj => absurd hj (by omega), Below.refl _ _⟩
  case round =>
    obtain ⟨k, rfl, rfl, hall, hB⟩ := hrel
    obtain ⟨hg1, hg2⟩ := pos_ge s k hall.out.lt
    by_cases hlt : pos s k < s.size
    · obtain ⟨hb1, hb2, hb3⟩ := rd_bd s (pos s k) hlt
      have HS : Hid (pos s (k + 1) = pos s k + (rdS s (pos s k)).2.1) := pos_succ s k
      have HNO : Hid (¬ ((rdS s (pos s k)).2.2 = true ∧ reB ((rdS s (pos s k)).1 : Nat) = true ∧ (k = 0 → stB ((rdS s (pos s k)).1 : Nat) = true)) → b = false) := fun h => by
        cases b with
        | false => rfl
        | true => exact absurd (HB.out.1 rfl) (name_no hlt hall.out.lt h)
      have HYES : Hid ((rdS s (pos s k)).2.2 = true ∧ reB ((rdS s (pos s k)).1 : Nat) = true ∧ (k = 0 → stB ((rdS s (pos s k)).1 : Nat) = true) → Nms s (k + 1)) := fun h j hj => by
        rcases Nat.lt_succ_iff_lt_or_eq.1 hj with hj | rfl
        · exact hall.out j hj
        · exact ⟨hlt, h⟩
      obtain ⟨⟨r, wd, ok⟩, hr⟩ : ∃ R, rdS s (pos s k) = R := ⟨_, rfl⟩
      have RD : Hid (∀ w, Calls Tryz.prog 82 #[.string s, .int .i64 (pos s k : Nat)] w fun e w' => e = .returned (.tuple #[.int .i64 (r : Nat), .int .i64 (wd : Nat), .bool ok]) ∧ w = w') := fun w => read_is s (pos s k) r wd ok w hs hlt hr
      rw [hr] at hb1 hb2 HS HNO HYES
      dsimp only at hb1 hb2 HS HNO HYES
      clear hb3 hr
      generalize hp : pos s k = p at *
      clear hp
      cases hok : ok with
      | false =>
        subst hok
        have HE : Hid (b = false) := HNO.out (fun h => by cases h.1)
        go_wp2_with (go_at_call 82; refine (RD.out _).mono ?_; rintro e w' ⟨rfl, rfl⟩)
        go_ret
        exact ⟨retb HE.out.symm, hB⟩
      | true =>
        subst hok
        have RS : ∀ c, reB (r : Nat) = c → Hid (∀ w, Calls Tryz.prog 84 #[.int .i64 (r : Nat)] w fun e w' => e = .returned (.bool c) ∧ Below w.heap.size w w') := fun c h w => by rw [← h]; exact rrest_at r w
        have SS : ∀ c, stB (r : Nat) = c → Hid (∀ w, Calls Tryz.prog 83 #[.int .i64 (r : Nat)] w fun e w' => e = .returned (.bool c) ∧ Below w.heap.size w w') := fun c h w => by rw [← h]; exact rstart_at r w
        rcases Nat.eq_zero_or_pos k with hk | hk
        · subst hk
          cases hst : stB (r : Nat) with
          | false =>
            have HE : Hid (b = false) := HNO.out (fun h => by have := h.2.2 rfl; rw [hst] at this; cases this)
            have S0 := SS _ hst
            clear SS RS hst HNO HYES
            go_wp2_with (first
              | (go_at_call 82; refine (RD.out _).mono ?_; rintro e w' ⟨rfl, rfl⟩)
              | (go_at_call 83; refine (S0.out _).mono ?_; rintro e w1 ⟨rfl, hB1⟩))
            go_ret
            exact ⟨retb HE.out.symm, hB.trans (hB1.mono hB.size)⟩
          | true =>
            have HY : Hid (Nms s (0 + 1)) := HYES.out ⟨rfl, reB_of hst, fun _ => hst⟩
            have S0 := SS _ hst
            have R0 := RS _ (reB_of hst)
            clear SS RS hst HNO HYES
            go_wp2_with (first
              | (go_at_call 82; refine (RD.out _).mono ?_; rintro e w' ⟨rfl, rfl⟩)
              | (go_at_call 83; refine (S0.out _).mono ?_; rintro e w1 ⟨rfl, hB1⟩)
              | (go_at_call 84; refine (R0.out _).mono ?_; rintro e w2 ⟨rfl, hB2⟩))
            go_roundw
            case rel => exact ⟨0 + 1, by go_num, congrArg (Value.int .i64) (by rw [HS.out]; omega), HY, (hB.trans (hB1.mono hB.size)).trans (hB2.mono (Nat.le_trans hB.size hB1.size))⟩
            case measure => simp [intOf]; omega
        · have hk0 : ((k : Int) == 0) = false := by simp; omega
          cases hre : reB (r : Nat) with
          | false =>
            have HE : Hid (b = false) := HNO.out (fun h => by have := h.2.1; rw [hre] at this; cases this)
            have R0 := RS _ hre
            clear SS RS hre HNO HYES
            go_wp2_with (first
              | (go_at_call 82; refine (RD.out _).mono ?_; rintro e w' ⟨rfl, rfl⟩)
              | (go_at_call 84; refine (R0.out _).mono ?_; rintro e w2 ⟨rfl, hB2⟩))
            go_ret
            exact ⟨retb HE.out.symm, hB.trans (hB2.mono hB.size)⟩
          | true =>
            have HY : Hid (Nms s (k + 1)) := HYES.out ⟨rfl, hre, fun h => by omega⟩
            have R0 := RS _ hre
            clear SS RS hre HNO HYES
            go_wp2_with (first
              | (go_at_call 82; refine (RD.out _).mono ?_; rintro e w' ⟨rfl, rfl⟩)
              | (go_at_call 84; refine (R0.out _).mono ?_; rintro e w2 ⟨rfl, hB2⟩))
            go_roundw
            case rel => exact ⟨k + 1, by go_num, congrArg (Value.int .i64) (by rw [HS.out]; omega), HY, hB.trans (hB2.mono hB.size)⟩
            case measure => simp [intOf]; omega
    · have HC : Hid (IsCnt s k) := ⟨by omega, hall.out.lt⟩
      have HP : Hid (b = true ↔ (1 ≤ k ∧ k ≤ 16) ∧ rsB s = false) := by
        show _ ↔ _
        rw [HB.out]
        constructor
        · rintro ⟨⟨n, hn, h1, h2, _⟩, h3⟩
          have := cnt_one hn HC.out
          exact ⟨by omega, h3⟩
        · rintro ⟨⟨h1, h2⟩, h3⟩
          exact ⟨⟨k, HC.out, h1, h2, hall.out⟩, h3⟩
      by_cases hk : 1 ≤ k ∧ k ≤ 16
      · obtain ⟨hk1, hk2⟩ := hk
        have RV : ∀ c, rsB s = c → Hid (∀ w, Calls Tryz.prog 85 #[.string s] w fun e w' => e = .returned (.bool c) ∧ Below w.heap.size w w') := fun c h w => by rw [← h]; exact rreserved_at s w
        cases hrs : rsB s with
        | false =>
          have HE : Hid (b = true) := HP.out.2 ⟨⟨hk1, hk2⟩, hrs⟩
          have R0 := RV _ hrs
          clear RV hrs
          go_wp2_with (go_at_call 85; refine (R0.out _).mono ?_; rintro e w2 ⟨rfl, hB2⟩)
          go_ret
          exact ⟨retb HE.out.symm, hB.trans (hB2.mono hB.size)⟩
        | true =>
          have HE : Hid (b = false) := by
            cases b with
            | false => rfl
            | true => have := (HP.out.1 rfl).2; rw [hrs] at this; cases this
          have R0 := RV _ hrs
          clear RV hrs
          go_wp2_with (go_at_call 85; refine (R0.out _).mono ?_; rintro e w2 ⟨rfl, hB2⟩)
          go_ret
          exact ⟨retb HE.out.symm, hB.trans (hB2.mono hB.size)⟩
      · have HE : Hid (b = false) := by
          cases b with
          | false => rfl
          | true => exact absurd (HP.out.1 rfl).1 hk
        by_cases hk1 : k < 1
        all_goals try (have hk2 : 16 < k := by omega)
        all_goals
          clear hk
          go_wp2
          go_ret
          exact ⟨retb HE.out.symm, hB⟩
end Go.Proofs.YtncgmnijgdfenaaGreatDoor.Gl
/- U+FFFD in a text: plain mathematics. -/
namespace Go.Proofs.YtncgmnijgdfenaaGreatDoor.Gl
set_option linter.unusedVariables false

/-- the three bytes of U+FFFD stand at p -/
def Fd (s : ByteArray) (p : Nat) : Prop := p + 3 ≤ s.size ∧ bt s p = 239 ∧ bt s (p + 1) = 191 ∧ bt s (p + 2) = 189
theorem rd_fffd (s : ByteArray) (p : Nat) (hp : p < s.size) (h : (rdS s p).1 = 65533) : (rdS s p).2.2 = true ↔ Fd s p := by
  have hb := bt_lt s p
  have hb1 := bt_lt s (p + 1)
  have hb2 := bt_lt s (p + 2)
  unfold Fd
  by_cases h1 : bt s p < 128
  · rw [rd_one s p h1] at h; dsimp only at h; omega
  · by_cases h2 : (128 ≤ bt s p ∧ bt s p < 194) ∨ 245 ≤ bt s p
    · rw [rd_bad0 s p h2]; dsimp only
      exact ⟨fun e => (by cases e), fun e => (by omega)⟩
    · by_cases h3 : bt s p < 224
      · rw [rd_two s p (by omega)] at h ⊢
        split at h
        · rename_i hc
          have e : accB s p (bt s p - 192) 1 = (bt s p - 192) * 64 + (bt s (p + 1) - 128) := rfl
          dsimp only at h
          have := hc.2.1 0 (by omega)
          omega
        · rename_i hc
          rw [if_neg hc]; dsimp only
          exact ⟨fun e => (by cases e), fun e => (by omega)⟩
      · by_cases h4 : bt s p < 240
        · have e : accB s p (bt s p - 224) 2 = ((bt s p - 224) * 64 + (bt s (p + 1) - 128)) * 64 + (bt s (p + 2) - 128) := rfl
          rw [rd_three s p (by omega)] at h ⊢
          split at h
          · rename_i hc
            rw [if_pos hc]; dsimp only at h ⊢
            have k0 := hc.2.1 0 (by omega)
            have k1 := hc.2.1 1 (by omega)
            have hc1 := hc.1
            refine ⟨fun _ => ?_, fun _ => rfl⟩
            rw [e] at h
            have k1' : 128 ≤ bt s (p + 2) ∧ bt s (p + 2) < 192 := k1
            simp only [Nat.zero_add] at k0
            omega
          · rename_i hc
            rw [if_neg hc]; dsimp only
            refine ⟨fun e => (by cases e), fun ⟨f0, f1, f2, f3⟩ => absurd ⟨by omega, ?_, ?_⟩ hc⟩
            · intro k hk
              rcases (show k = 0 ∨ k = 1 by omega) with rfl | rfl
              · simp only [Nat.zero_add]; omega
              · show 128 ≤ bt s (p + 2) ∧ bt s (p + 2) < 192
                omega
            · rw [e, f1, f2, f3]; omega
        · rw [rd_four s p (by omega)] at h ⊢
          split at h
          · rename_i hc
            dsimp only at h
            have := hc.2.2.1
            omega
          · rename_i hc
            rw [if_neg hc]; dsimp only
            exact ⟨fun e => (by cases e), fun e => (by omega)⟩
theorem rd_ok (s : ByteArray) (p : Nat) (h : (rdS s p).1 ≠ 65533) : (rdS s p).2.2 = true := by
  unfold rdS at h ⊢
  dsimp only at h ⊢
  have : ((Utf8.decode s p).1 == 65533) = false := by simpa using h
  rw [this]; rfl
theorem bt_extract (s : ByteArray) (i j k : Nat) (h : i + k < j) (hj : j ≤ s.size) : bt (s.extract i j) k = bt s (i + k) := by
  rw [bt_of _ k (by rw [ByteArray.size_extract]; omega), bt_of s (i + k) (by omega), ByteArray.getElem_extract]
theorem list_three (t : ByteArray) (h : t.size = 3) : t.toList = [t[0], t[1], t[2]] := by
  rw [ByteArray.toList_eq]
  cases t with
  | mk d =>
    have hd : d.size = 3 := h
    have hl : d.toList.length = 3 := by simpa using hd
    apply List.ext_getElem
    · simp [hd]
    · intro i h1 h2
      rcases (show i = 0 ∨ i = 1 ∨ i = 2 by simp at h2; omega) with rfl | rfl | rfl <;> rfl
theorem three_iff (t : ByteArray) (h : t.size = 3) : (t.toList == [239, 191, 189]) = true ↔ bt t 0 = 239 ∧ bt t 1 = 191 ∧ bt t 2 = 189 := by
  rw [beq_iff_eq, list_three t h, bt_of t 0 (by omega), bt_of t 1 (by omega), bt_of t 2 (by omega)]
  simp only [List.cons.injEq, and_true]
  have key : ∀ (x : UInt8) (n : Nat) (hn : n < 256), x = UInt8.ofNat n ↔ x.toNat = n := fun x n hn => by
    rw [← UInt8.toNat_inj, UInt8.toNat_ofNat']; omega
  rw [← key t[0] 239 (by omega), ← key t[1] 191 (by omega), ← key t[2] 189 (by omega)]
  exact Iff.rfl
/-- 's[p:p+3]' is U+FFFD -/
theorem cut3_iff (s : ByteArray) (p : Nat) (h : p + 3 ≤ s.size) : ((s.extract p (p + 3)).toList == [239, 191, 189]) = true ↔ Fd s p := by
  rw [three_iff _ (by rw [ByteArray.size_extract]; omega), bt_extract s p (p + 3) 0 (by omega) h, bt_extract s p (p + 3) 1 (by omega) h, bt_extract s p (p + 3) 2 (by omega) h]
  unfold Fd
  exact ⟨fun ⟨a, b, c⟩ => ⟨h, a, b, c⟩, fun ⟨_, a, b, c⟩ => ⟨a, b, c⟩⟩
/-- the beginning of 's[p:]' is U+FFFD -/
theorem pre3_iff (s : ByteArray) (p : Nat) (hp : p ≤ s.size) (h : 3 ≤ (s.extract p s.size).size) : (((s.extract p s.size).extract 0 3).toList == [239, 191, 189]) = true ↔ Fd s p := by
  have h' : p + 3 ≤ s.size := by rw [ByteArray.size_extract] at h; omega
  have e : ∀ k, k < 3 → bt ((s.extract p s.size).extract 0 3) k = bt s (p + k) := fun k hk => by
    rw [bt_extract _ 0 3 k (by omega) h, bt_extract s p s.size (0 + k) (by omega) (Nat.le_refl _), Nat.zero_add]
  rw [three_iff _ (by rw [ByteArray.size_extract]; omega), e 0 (by omega), e 1 (by omega), e 2 (by omega)]
  unfold Fd
  exact ⟨fun ⟨a, b, c⟩ => ⟨h', a, b, c⟩, fun ⟨_, a, b, c⟩ => ⟨a, b, c⟩⟩
theorem pre3_no (s : ByteArray) (p : Nat) (hp : p ≤ s.size) (h : (s.extract p s.size).size < 3) : ¬ Fd s p := by
  rintro ⟨h1, _⟩
  rw [ByteArray.size_extract] at h; omega
end Go.Proofs.YtncgmnijgdfenaaGreatDoor.Gl
/- A text cut at a character's end has the characters ahead of it: plain mathematics. -/
namespace Go.Proofs.YtncgmnijgdfenaaGreatDoor.Gl
set_option linter.unusedVariables false

def Cont (s : ByteArray) (i m : Nat) : Prop := ∀ k, k < m → 128 ≤ bt s (i + (k + 1)) ∧ bt s (i + (k + 1)) < 192
theorem bt_cut (s : ByteArray) (p j : Nat) (hp : p ≤ s.size) (hj : j < p) : bt (s.extract 0 p) j = bt s j := by
  rw [bt_extract s 0 p j (by omega) hp, Nat.zero_add]
theorem acc_cut (s : ByteArray) (p i x0 : Nat) (hp : p ≤ s.size) : ∀ j, i + j < p → accB (s.extract 0 p) i x0 j = accB s i x0 j
  | 0, _ => rfl
  | j + 1, h => by rw [acc_succ, acc_succ, acc_cut s p i x0 hp j (by omega), bt_cut s p (i + (j + 1)) hp (by omega)]
theorem cond_cut (s : ByteArray) (p i x0 m : Nat) (Q : Nat → Prop) (hp : p ≤ s.size) :
    (m < (s.extract 0 p).size - i ∧ (∀ k, k < m → 128 ≤ bt (s.extract 0 p) (i + (k + 1)) ∧ bt (s.extract 0 p) (i + (k + 1)) < 192) ∧ Q (accB (s.extract 0 p) i x0 m)) ↔
    i + m < p ∧ (m < s.size - i ∧ (∀ k, k < m → 128 ≤ bt s (i + (k + 1)) ∧ bt s (i + (k + 1)) < 192) ∧ Q (accB s i x0 m)) := by
  have hsz : (s.extract 0 p).size = p := by rw [ByteArray.size_extract]; omega
  rw [hsz]
  constructor
  · rintro ⟨h1, h2, h3⟩
    have hm : i + m < p := by omega
    refine ⟨hm, by omega, fun k hk => ?_, ?_⟩
    · have := h2 k hk
      rwa [bt_cut s p _ hp (by omega)] at this
    · rwa [acc_cut s p i x0 hp m hm] at h3
  · rintro ⟨hm, h1, h2, h3⟩
    refine ⟨by omega, fun k hk => ?_, ?_⟩
    · rw [bt_cut s p _ hp (by omega)]; exact h2 k hk
    · rw [acc_cut s p i x0 hp m hm]; exact h3
theorem rd_cut (s : ByteArray) (p i : Nat) (hp : p ≤ s.size) (hi : i + (rdS s i).2.1 ≤ p) (h : i < p) : rdS (s.extract 0 p) i = rdS s i := by
  have hb := bt_lt s i
  have e0 := bt_cut s p i hp h
  by_cases h1 : bt s i < 128
  · rw [rd_one s i h1, rd_one _ i (by rw [e0]; exact h1), e0]
  · by_cases h2 : (128 ≤ bt s i ∧ bt s i < 194) ∨ 245 ≤ bt s i
    · rw [rd_bad0 s i h2, rd_bad0 _ i (by rw [e0]; exact h2)]
    · by_cases h3 : bt s i < 224
      · rw [rd_two s i (by omega)] at hi ⊢
        rw [rd_two _ i (by rw [e0]; omega), e0]
        have hq := cond_cut s p i (bt s i - 192) 1 (fun c => 128 ≤ c ∧ c ≤ 1114111 ∧ ¬ (55296 ≤ c ∧ c ≤ 57343)) hp
        split at hi
        · rename_i hc
          dsimp only at hi
          rw [if_pos hc, if_pos (hq.2 ⟨by omega, hc⟩), acc_cut s p i _ hp 1 (by omega)]
        · rename_i hc
          rw [if_neg hc, if_neg (fun h => hc (hq.1 h).2)]
      · by_cases h4 : bt s i < 240
        · rw [rd_three s i (by omega)] at hi ⊢
          rw [rd_three _ i (by rw [e0]; omega), e0]
          have hq := cond_cut s p i (bt s i - 224) 2 (fun c => 2048 ≤ c ∧ c ≤ 1114111 ∧ ¬ (55296 ≤ c ∧ c ≤ 57343)) hp
          split at hi
          · rename_i hc
            dsimp only at hi
            rw [if_pos hc, if_pos (hq.2 ⟨by omega, hc⟩), acc_cut s p i _ hp 2 (by omega)]
          · rename_i hc
            rw [if_neg hc, if_neg (fun h => hc (hq.1 h).2)]
        · rw [rd_four s i (by omega)] at hi ⊢
          rw [rd_four _ i (by rw [e0]; omega), e0]
          have hq := cond_cut s p i (bt s i - 240) 3 (fun c => 65536 ≤ c ∧ c ≤ 1114111 ∧ ¬ (55296 ≤ c ∧ c ≤ 57343)) hp
          split at hi
          · rename_i hc
            dsimp only at hi
            rw [if_pos hc, if_pos (hq.2 ⟨by omega, hc⟩), acc_cut s p i _ hp 3 (by omega)]
          · rename_i hc
            rw [if_neg hc, if_neg (fun h => hc (hq.1 h).2)]
theorem pos_mono (s : ByteArray) (k j : Nat) (h : ∀ i, i < k → pos s i < s.size) (hj : j < k) : pos s j < pos s k ∧ pos s (j + 1) ≤ pos s k := by
  induction k with
  | zero => omega
  | succ k ih =>
    have hb := rd_bd s (pos s k) (h k (by omega))
    have hs := pos_succ s k
    rcases Nat.lt_succ_iff_lt_or_eq.1 hj with hj | rfl
    · have := ih (fun i hi => h i (by omega)) hj
      omega
    · omega
theorem cnt_cut (s : ByteArray) (k : Nat) (h : ∀ i, i < k → pos s i < s.size) : IsCnt (s.extract 0 (pos s k)) k := by
  have hp := (pos_ge s k h).2
  have key : ∀ j, j ≤ k → pos (s.extract 0 (pos s k)) j = pos s j := by
    intro j
    induction j with
    | zero => intro _; rfl
    | succ j ih =>
      intro hj
      obtain ⟨m1, m2⟩ := pos_mono s k j h (by omega)
      rw [pos_succ, ih (by omega), pos_succ, rd_cut s (pos s k) (pos s j) hp (by rw [← pos_succ]; exact m2) m1]
  refine ⟨?_, fun j hj => ?_⟩
  · rw [key k (Nat.le_refl _), ByteArray.size_extract]; omega
  · rw [key j (by omega), ByteArray.size_extract]
    have := (pos_mono s k j h hj).1
    omega
/-- what 'good' holds behind k characters -/
def Gd (s : ByteArray) (k gk g : Nat) : Prop := (Oks s k ∧ gk = s.size) ∨ (¬ Oks s k ∧ gk = g ∧ g ≤ pos s k)
theorem gd_start (s : ByteArray) (g : Nat) : Gd s 0 s.size g := .inl ⟨fun j hj => absurd hj (by omega), rfl⟩
theorem gd_ok {s : ByteArray} {k gk g : Nat} (h : Gd s k gk g) (hlt : pos s k < s.size) (ho : (rdS s (pos s k)).2.2 = true) : Gd s (k + 1) gk g := by
  rcases h with ⟨h1, h2⟩ | ⟨h1, h2, h3⟩
  · refine .inl ⟨fun j hj => ?_, h2⟩
    rcases Nat.lt_succ_iff_lt_or_eq.1 hj with hj | rfl
    · exact h1 j hj
    · exact ⟨hlt, ho⟩
  · exact .inr ⟨fun h => h1 (fun j hj => h j (by omega)), h2, by have := pos_succ s k; omega⟩
theorem gd_bad {s : ByteArray} {k gk g : Nat} (h : Gd s k gk g) (hg : IsGood s g) (hlt : pos s k < s.size) (ho : (rdS s (pos s k)).2.2 = false) : Gd s (k + 1) (min gk (pos s k)) g := by
  have hn : ¬ Oks s (k + 1) := fun h => by have := (h k (by omega)).2; rw [ho] at this; cases this
  have hs := pos_succ s k
  rcases h with ⟨h1, h2⟩ | ⟨h1, h2, h3⟩
  · have := good_one hg ⟨k, rfl, h1, .inr ⟨hlt, ho⟩⟩
    exact .inr ⟨hn, by omega, by omega⟩
  · exact .inr ⟨hn, by omega, by omega⟩
theorem gd_end {s : ByteArray} {k gk g : Nat} (h : Gd s k gk g) (hg : IsGood s g) (he : pos s k = s.size) : gk = g := by
  rcases h with ⟨h1, h2⟩ | ⟨_, h2, _⟩
  · have := good_one hg ⟨k, rfl, h1, .inl he⟩
    omega
  · exact h2
theorem gd_le {s : ByteArray} {k gk g : Nat} (h : Gd s k gk g) (hp : pos s k ≤ s.size) : gk ≤ s.size := by
  rcases h with ⟨_, h2⟩ | ⟨_, h2, h3⟩ <;> omega
theorem nms_succ {s : ByteArray} {k : Nat} (hlt : pos s k < s.size) : Nms s (k + 1) ↔ Nms s k ∧ reB ((rdS s (pos s k)).1 : Nat) = true ∧ (k = 0 → stB ((rdS s (pos s k)).1 : Nat) = true) := by
  constructor
  · intro h
    exact ⟨fun j hj => h j (by omega), (h k (by omega)).2.2.1, (h k (by omega)).2.2.2⟩
  · rintro ⟨h1, h2, h3⟩ j hj
    rcases Nat.lt_succ_iff_lt_or_eq.1 hj with hj | rfl
    · exact h1 j hj
    · refine ⟨hlt, ?_, h2, h3⟩
      by_cases hc : (rdS s (pos s j)).1 = 65533
      · rw [hc] at h2; exact absurd h2 (by decide)
      · exact rd_ok s _ hc
theorem name_iff {s : ByteArray} {k : Nat} (h : IsCnt s k) : IsName s ↔ Nms s k ∧ 1 ≤ k ∧ k ≤ 16 ∧ rsB s = false := by
  constructor
  · rintro ⟨⟨n, hn, h1, h2, h3⟩, h4⟩
    have := cnt_one hn h
    subst this
    exact ⟨h3, h1, h2, h4⟩
  · rintro ⟨h1, h2, h3, h4⟩
    exact ⟨⟨k, h, h2, h3, h1⟩, h4⟩
end Go.Proofs.YtncgmnijgdfenaaGreatDoor.Gl
/- Reading words off a text: the plain function, and that it hangs on what stands there alone: plain mathematics. -/
namespace Go.Proofs.YtncgmnijgdfenaaGreatDoor.Gl
set_option linter.unusedVariables false

/-- u from d on goes as s does, and then ends, or goes on with a blank -/
structure Sim (u : ByteArray) (d : Nat) (s : ByteArray) : Prop where
  size : d + s.size ≤ u.size
  byte : ∀ j, j < s.size → bt u (d + j) = bt s j
  stop : d + s.size = u.size ∨ bt u (d + s.size) = 32
theorem acc_sim {u s : ByteArray} {d : Nat} (h : Sim u d s) (p x0 : Nat) : ∀ j, p + j < s.size → accB u (d + p) x0 j = accB s p x0 j
  | 0, _ => rfl
  | j + 1, hj => by
    rw [acc_succ, acc_succ, acc_sim h p x0 j (by omega), show d + p + (j + 1) = d + (p + (j + 1)) by omega, h.byte (p + (j + 1)) hj]
theorem cond_sim {u s : ByteArray} {d : Nat} (h : Sim u d s) (p x0 m : Nat) (Q : Nat → Prop) (hp : p < s.size) :
    (m < u.size - (d + p) ∧ (∀ k, k < m → 128 ≤ bt u (d + p + (k + 1)) ∧ bt u (d + p + (k + 1)) < 192) ∧ Q (accB u (d + p) x0 m)) ↔
    (m < s.size - p ∧ (∀ k, k < m → 128 ≤ bt s (p + (k + 1)) ∧ bt s (p + (k + 1)) < 192) ∧ Q (accB s p x0 m)) := by
  have hsz := h.size
  constructor
  · rintro ⟨h1, h2, h3⟩
    have hm : p + m < s.size := by
      by_cases hc : p + m < s.size
      · exact hc
      · have := h2 (s.size - p - 1) (by omega)
        rw [show d + p + (s.size - p - 1 + 1) = d + s.size by omega] at this
        rcases h.stop with e | e <;> omega
    refine ⟨by omega, fun k hk => ?_, ?_⟩
    · have := h2 k hk
      rwa [show d + p + (k + 1) = d + (p + (k + 1)) by omega, h.byte _ (by omega)] at this
    · rwa [acc_sim h p x0 m hm] at h3
  · rintro ⟨h1, h2, h3⟩
    refine ⟨by omega, fun k hk => ?_, ?_⟩
    · rw [show d + p + (k + 1) = d + (p + (k + 1)) by omega, h.byte _ (by omega)]; exact h2 k hk
    · rw [acc_sim h p x0 m (by omega)]; exact h3
theorem rd_sim {u s : ByteArray} {d : Nat} (h : Sim u d s) (p : Nat) (hp : p < s.size) : rdS u (d + p) = rdS s p := by
  have hb := bt_lt s p
  have e0 := h.byte p hp
  by_cases h1 : bt s p < 128
  · rw [rd_one s p h1, rd_one u _ (by rw [e0]; exact h1), e0]
  · by_cases h2 : (128 ≤ bt s p ∧ bt s p < 194) ∨ 245 ≤ bt s p
    · rw [rd_bad0 s p h2, rd_bad0 u _ (by rw [e0]; exact h2)]
    · by_cases h3 : bt s p < 224
      · rw [rd_two s p (by omega), rd_two u _ (by rw [e0]; omega), e0]
        have hq := cond_sim h p (bt s p - 192) 1 (fun c => 128 ≤ c ∧ c ≤ 1114111 ∧ ¬ (55296 ≤ c ∧ c ≤ 57343)) hp
        split
        · rename_i hc
          have hd := hq.1 hc
          have := hd.1
          rw [if_pos hd, acc_sim h p _ 1 (by omega)]
        · rename_i hc
          rw [if_neg (fun e => hc (hq.2 e))]
      · by_cases h4 : bt s p < 240
        · rw [rd_three s p (by omega), rd_three u _ (by rw [e0]; omega), e0]
          have hq := cond_sim h p (bt s p - 224) 2 (fun c => 2048 ≤ c ∧ c ≤ 1114111 ∧ ¬ (55296 ≤ c ∧ c ≤ 57343)) hp
          split
          · rename_i hc
            have hd := hq.1 hc
            have := hd.1
            rw [if_pos hd, acc_sim h p _ 2 (by omega)]
          · rename_i hc
            rw [if_neg (fun e => hc (hq.2 e))]
        · rw [rd_four s p (by omega), rd_four u _ (by rw [e0]; omega), e0]
          have hq := cond_sim h p (bt s p - 240) 3 (fun c => 65536 ≤ c ∧ c ≤ 1114111 ∧ ¬ (55296 ≤ c ∧ c ≤ 57343)) hp
          split
          · rename_i hc
            have hd := hq.1 hc
            have := hd.1
            rw [if_pos hd, acc_sim h p _ 3 (by omega)]
          · rename_i hc
            rw [if_neg (fun e => hc (hq.2 e))]
/- a window of a text -/
theorem bt_win (s : ByteArray) (a e j : Nat) (he : e ≤ s.size) (hj : a + j < e) : bt (s.extract a e) j = bt s (a + j) := bt_extract s a e j hj he
theorem size_win (s : ByteArray) (a e : Nat) (he : e ≤ s.size) : (s.extract a e).size = e - a := by rw [ByteArray.size_extract]; omega
theorem acc_win (s : ByteArray) (a e i x0 : Nat) (he : e ≤ s.size) : ∀ j, a + i + j < e → accB (s.extract a e) i x0 j = accB s (a + i) x0 j
  | 0, _ => rfl
  | j + 1, h => by rw [acc_succ, acc_succ, acc_win s a e i x0 he j (by omega), bt_win s a e (i + (j + 1)) he (by omega), show a + (i + (j + 1)) = a + i + (j + 1) by omega]
theorem cond_win (s : ByteArray) (a e i x0 m : Nat) (Q : Nat → Prop) (he : e ≤ s.size) (hi : a + i < e) :
    (m < (s.extract a e).size - i ∧ (∀ k, k < m → 128 ≤ bt (s.extract a e) (i + (k + 1)) ∧ bt (s.extract a e) (i + (k + 1)) < 192) ∧ Q (accB (s.extract a e) i x0 m)) ↔
    a + i + m < e ∧ (m < s.size - (a + i) ∧ (∀ k, k < m → 128 ≤ bt s (a + i + (k + 1)) ∧ bt s (a + i + (k + 1)) < 192) ∧ Q (accB s (a + i) x0 m)) := by
  rw [size_win s a e he]
  constructor
  · rintro ⟨h1, h2, h3⟩
    have hm : a + i + m < e := by omega
    refine ⟨hm, by omega, fun k hk => ?_, ?_⟩
    · have := h2 k hk
      rwa [bt_win s a e _ he (by omega), show a + (i + (k + 1)) = a + i + (k + 1) by omega] at this
    · rwa [acc_win s a e i x0 he m hm] at h3
  · rintro ⟨hm, h1, h2, h3⟩
    refine ⟨by omega, fun k hk => ?_, ?_⟩
    · rw [bt_win s a e _ he (by omega), show a + (i + (k + 1)) = a + i + (k + 1) by omega]; exact h2 k hk
    · rw [acc_win s a e i x0 he m hm]; exact h3
/-- a character that lies within the window is read there as in the text -/
theorem rd_win (s : ByteArray) (a e i : Nat) (he : e ≤ s.size) (hi : a + i + (rdS s (a + i)).2.1 ≤ e) (h : a + i < e) : rdS (s.extract a e) i = rdS s (a + i) := by
  have hb := bt_lt s (a + i)
  have e0 := bt_win s a e i he h
  by_cases h1 : bt s (a + i) < 128
  · rw [rd_one s _ h1, rd_one _ i (by rw [e0]; exact h1), e0]
  · by_cases h2 : (128 ≤ bt s (a + i) ∧ bt s (a + i) < 194) ∨ 245 ≤ bt s (a + i)
    · rw [rd_bad0 s _ h2, rd_bad0 _ i (by rw [e0]; exact h2)]
    · by_cases h3 : bt s (a + i) < 224
      · rw [rd_two s _ (by omega)] at hi ⊢
        rw [rd_two _ i (by rw [e0]; omega), e0]
        have hq := cond_win s a e i (bt s (a + i) - 192) 1 (fun c => 128 ≤ c ∧ c ≤ 1114111 ∧ ¬ (55296 ≤ c ∧ c ≤ 57343)) he h
        split at hi
        · rename_i hc
          dsimp only at hi
          rw [if_pos hc, if_pos (hq.2 ⟨by omega, hc⟩), acc_win s a e i _ he 1 (by omega)]
        · rename_i hc
          rw [if_neg hc, if_neg (fun h => hc (hq.1 h).2)]
      · by_cases h4 : bt s (a + i) < 240
        · rw [rd_three s _ (by omega)] at hi ⊢
          rw [rd_three _ i (by rw [e0]; omega), e0]
          have hq := cond_win s a e i (bt s (a + i) - 224) 2 (fun c => 2048 ≤ c ∧ c ≤ 1114111 ∧ ¬ (55296 ≤ c ∧ c ≤ 57343)) he h
          split at hi
          · rename_i hc
            dsimp only at hi
            rw [if_pos hc, if_pos (hq.2 ⟨by omega, hc⟩), acc_win s a e i _ he 2 (by omega)]
          · rename_i hc
            rw [if_neg hc, if_neg (fun h => hc (hq.1 h).2)]
        · rw [rd_four s _ (by omega)] at hi ⊢
          rw [rd_four _ i (by rw [e0]; omega), e0]
          have hq := cond_win s a e i (bt s (a + i) - 240) 3 (fun c => 65536 ≤ c ∧ c ≤ 1114111 ∧ ¬ (55296 ≤ c ∧ c ≤ 57343)) he h
          split at hi
          · rename_i hc
            dsimp only at hi
            rw [if_pos hc, if_pos (hq.2 ⟨by omega, hc⟩), acc_win s a e i _ he 3 (by omega)]
          · rename_i hc
            rw [if_neg hc, if_neg (fun h => hc (hq.1 h).2)]
/-- the first byte of an ASCII character is the character -/
theorem rd_ascii {s : ByteArray} {p : Nat} (h : (rdS s p).1 < 128) : bt s p = (rdS s p).1 ∧ (rdS s p).2.1 = 1 ∧ (rdS s p).2.2 = true := by
  have hb := bt_lt s p
  by_cases h1 : bt s p < 128
  · rw [rd_one s p h1]; exact ⟨rfl, rfl, rfl⟩
  · exfalso
    by_cases h2 : (128 ≤ bt s p ∧ bt s p < 194) ∨ 245 ≤ bt s p
    · rw [rd_bad0 s p h2] at h; dsimp only at h; omega
    · by_cases h3 : bt s p < 224
      · rw [rd_two s p (by omega)] at h
        split at h
        · rename_i hc; dsimp only at h; have := hc.2.2.1; omega
        · dsimp only at h; omega
      · by_cases h4 : bt s p < 240
        · rw [rd_three s p (by omega)] at h
          split at h
          · rename_i hc; dsimp only at h; have := hc.2.2.1; omega
          · dsimp only at h; omega
        · rw [rd_four s p (by omega)] at h
          split at h
          · rename_i hc; dsimp only at h; have := hc.2.2.1; omega
          · dsimp only at h; omega
end Go.Proofs.YtncgmnijgdfenaaGreatDoor.Gl
