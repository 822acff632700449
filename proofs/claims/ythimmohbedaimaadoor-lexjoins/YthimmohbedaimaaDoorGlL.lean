/- The program's Good, At. -/
import Derived.Test.YthimmohbedaimaaDoorGlK
import Derived.Test.YthimmohbedaimaaDoorGlMb
namespace Go.Proofs.YthimmohbedaimaaDoor.Gl
open Go.RowKit
set_option linter.unusedVariables false

theorem bool_of_iff {a b : Bool} (h : a = true ↔ b = true) : a = b := Bool.eq_iff_iff.2 h
theorem hp_in (t : ByteArray) (b : Bool) (w : World) (hs : t.size ≤ 9223372036854775807) (h3 : 3 ≤ t.size) (hb : ((t.extract 0 3).toList == [239, 191, 189]) = b) :
    Calls Tryd.prog 27 #[.string t, .string ⟨#[239, 191, 189]⟩] w fun e w' => e = .returned (.bool b) ∧ w = w' := by
  have HE : Hid (((t.extract 0 3).toList == [239, 191, 189]) = b) := hb
  have h3' : (3 : Int) ≤ (t.size : Int) := by omega
  clear hb
  go_enter Tryd.func27, Tryd.ntmps27
  go_wp2
  go_ret
  exact ⟨retb HE.out, rfl⟩
theorem hp_no (t : ByteArray) (w : World) (h3 : t.size < 3) :
    Calls Tryd.prog 27 #[.string t, .string ⟨#[239, 191, 189]⟩] w fun e w' => e = .returned (.bool false) ∧ w = w' := by
  have h3' : decide ((3 : Int) ≤ (t.size : Int)) = false := decide_eq_false (by omega)
  go_enter Tryd.func27, Tryd.ntmps27
  go_wp2
  go_ret
  exact ⟨rfl, rfl⟩
theorem pre_at (s : ByteArray) (p : Nat) (b : Bool) (w : World) (hs : s.size ≤ 9223372036854775807) (hp : p ≤ s.size) (hb : b = true ↔ Fd s p) :
    Calls Tryd.prog 17 #[.string (s.extract p s.size), .string ⟨#[239, 191, 189]⟩] w fun e w' => e = .returned (.bool b) ∧ w = w' := by
  have K : Hid (∀ w, Calls Tryd.prog 27 #[.string (s.extract p s.size), .string ⟨#[239, 191, 189]⟩] w fun e w' => e = .returned (.bool b) ∧ w = w') := fun w => by
    by_cases h3 : 3 ≤ (s.extract p s.size).size
    · exact hp_in _ b w (by rw [ByteArray.size_extract]; omega) h3 (bool_of_iff ((pre3_iff s p hp h3).trans hb.symm))
    · have : b = false := by
        cases b with
        | false => rfl
        | true => exact absurd (hb.1 rfl) (pre3_no s p hp (by omega))
      rw [this]
      exact hp_no _ w (by omega)
  clear hb
  generalize s.extract p s.size = t at *
  go_enter Tryd.func17, Tryd.ntmps17
  go_wp2_with (go_at_call 27; refine (K.out _).mono ?_; rintro e w2 ⟨rfl, rfl⟩)
  go_ret
  exact ⟨rfl, rfl⟩
set_option maxHeartbeats 1000000 in
theorem good_at (s : ByteArray) (g : Nat) (w : World) (hs : s.size ≤ 9223372036854775807) (hg : IsGood s g) :
    Calls Tryd.prog 13 #[.string s] w fun e w' => e = .returned (.int .i64 g) ∧ Below w.heap.size w w' := by
  have HG : Hid (IsGood s g) := hg
  clear hg
  go_enter Tryd.func13, Tryd.ntmps13
  go_wp2
  go_loopw [] (fun wr => ∃ k : Nat, wr = w.iter s (pos s k) ∧ Hid (Oks s k)) (fun wr => s.size - wr.iterPos w.heap.size)
  case atStart => exact ⟨0, rfl, fun j hj => absurd hj (by omega)⟩
  case round =>
    obtain ⟨k, rfl, hall⟩ := hrel
    obtain ⟨hg1, hg2⟩ := pos_ge s k hall.out.lt
    by_cases hlt : pos s k < s.size
    · obtain ⟨hb1, hb2, hb3⟩ := rd_bd s (pos s k) hlt
      have HS : Hid (pos s (k + 1) = pos s k + (rdS s (pos s k)).2.1) := pos_succ s k
      have hnx := next_at w s (pos s k) _ _ hlt rfl rfl
      have HYES : Hid ((rdS s (pos s k)).2.2 = true → Oks s (k + 1)) := fun h j hj => by
        rcases Nat.lt_succ_iff_lt_or_eq.1 hj with hj | rfl
        · exact hall.out j hj
        · exact ⟨hlt, h⟩
      have HNO : Hid ((rdS s (pos s k)).2.2 = false → ((pos s k : Nat) : Int) = (g : Int)) := fun h => by
        have := good_one HG.out ⟨k, rfl, hall.out, .inr ⟨hlt, h⟩⟩
        omega
      have HF : Hid ((rdS s (pos s k)).1 = 65533 → ((rdS s (pos s k)).2.2 = true ↔ Fd s (pos s k))) := rd_fffd s (pos s k) hlt
      have HO : Hid ((rdS s (pos s k)).1 ≠ 65533 → (rdS s (pos s k)).2.2 = true) := rd_ok s (pos s k)
      have PR : Hid (∀ b, (b = true ↔ Fd s (pos s k)) → ∀ w, Calls Tryd.prog 17 #[.string (s.extract (pos s k) s.size), .string ⟨#[239, 191, 189]⟩] w fun e w' => e = .returned (.bool b) ∧ w = w') := fun b hb w => pre_at s (pos s k) b w hs hg2 hb
      generalize hp : pos s k = p at *
      clear hp
      generalize hr : (rdS s p).1 = r at *
      generalize hw : (rdS s p).2.1 = wd at *
      generalize ho : (rdS s p).2.2 = ok at *
      clear hr hw ho
      by_cases h : r = 65533
      · have P0 : Hid (∀ w, Calls Tryd.prog 17 #[.string (s.extract p s.size), .string ⟨#[239, 191, 189]⟩] w fun e w' => e = .returned (.bool ok) ∧ w = w') := PR.out ok (HF.out h)
        subst h
        cases ok with
        | true =>
          have HY : Hid (Oks s (k + 1)) := HYES.out rfl
          clear HYES HNO HF HO PR
          go_wp2_with (go_at_call 17; refine (P0.out _).mono ?_; rintro e w2 ⟨rfl, rfl⟩)
          go_roundw
          case rel => exact ⟨k + 1, by rw [HS.out], HY⟩
          case measure => simp only [World.iterPos_iter]; omega
        | false =>
          have HE : Hid ((p : Int) = (g : Int)) := HNO.out rfl
          clear HYES HNO HF HO PR
          go_wp2_with (go_at_call 17; refine (P0.out _).mono ?_; rintro e w2 ⟨rfl, rfl⟩)
          go_ret
          exact ⟨ret1 HE.out, iter_below _ _ _⟩
      · have HY : Hid (Oks s (k + 1)) := HYES.out (HO.out h)
        have h' : ((r : Int) == 65533) = false := by simp; omega
        clear HYES HNO HF HO PR
        go_wp2
        go_roundw
        case rel => exact ⟨k + 1, by rw [HS.out], HY⟩
        case measure => simp only [World.iterPos_iter]; omega
    · have HE : Hid ((s.size : Int) = (g : Int)) := by
        have := good_one HG.out ⟨k, rfl, hall.out, .inl (by omega)⟩
        show _ = _
        omega
      have hnx := fun ty => run_next_end (P := Tryd.prog) w s (pos s k) ty hlt
      generalize hp : pos s k = p at *
      clear hp
      go_wp2
      go_ret
      exact ⟨ret1 HE.out, iter_below _ _ _⟩
theorem bcell {W w1 : World} (hb : Below W.heap.size W w1) : (∀ b o, b < W.heap.size → w1.cell? ⟨b, o, none⟩ = W.cell? ⟨b, o, none⟩) ∧ (∀ b o, b < W.heap.size → w1.frozen? ⟨b, o, none⟩ = W.frozen? ⟨b, o, none⟩) :=
  ⟨fun b o h => hb.cell (p := ⟨b, o, none⟩) h, fun b o h => hb.frozen (p := ⟨b, o, none⟩) h⟩
set_option maxHeartbeats 1000000 in
theorem at_in (s : ByteArray) (k n : Nat) (w : World) (hs : s.size ≤ 9223372036854775807) (hk : k ≤ s.size) (hn : IsCnt (s.extract 0 k) n) :
    Calls Tryd.prog 10 #[.string s, .int .i64 k] w fun e w' => e = .returned (.tuple #[.agg #[.int .i64 k, .int .i64 n], .int .i64 0]) ∧ Below w.heap.size w w' := by
  have CH : Hid (∀ w, Calls Tryd.prog 16 #[.string (s.extract 0 k)] w fun e w' => e = .returned (.int .i64 n) ∧ Below w.heap.size w w') := fun w => characters_at _ n w (by rw [ByteArray.size_extract]; omega) hn
  have d1 : decide ((k : Int) < 0) = false := decide_eq_false (by omega)
  have d2 : decide (s.size < k) = false := decide_eq_false (by omega)
  clear hn
  go_enter Tryd.func10, Tryd.ntmps10
  go_wp2_with (go_at_call 16; refine (CH.out _).mono ?_; rintro e w2 ⟨rfl, hB2⟩; obtain ⟨hc, hf⟩ := bcell hB2)
  refine bodyPost_ret (v := .tuple #[.agg #[.int .i64 k, .int .i64 n], .int .i64 0]) (by simp [results, Tryd.results10, go_sem, hc]) rfl ⟨rfl, ?_⟩
  exact ((((Below.refl _ _).alloc (Nat.le_refl _) _).trans (hB2.mono (by simp))).setCell (by simp) _).setCell (by simp) _
theorem at_out (s : ByteArray) (k : Int) (w : World) (hs : s.size ≤ 9223372036854775807) (hk : k < 0 ∨ (s.size : Int) < k) :
    Calls Tryd.prog 10 #[.string s, .int .i64 k] w fun e w' => e = .returned (.tuple #[.agg #[.int .i64 0, .int .i64 0], .int .i64 2]) ∧ Below w.heap.size w w' := by
  by_cases h0 : k < 0
  · clear hk
    go_enter Tryd.func10, Tryd.ntmps10
    go_wp2
    exact bodyPost_ret (v := .tuple #[.agg #[.int .i64 0, .int .i64 0], .int .i64 2]) (by simp [results, Tryd.results10, go_sem]) rfl ⟨rfl, (Below.refl _ _).alloc (Nat.le_refl _) _⟩
  · have h1 : (s.size : Int) < k := by omega
    have h2 : decide (k < 0) = false := decide_eq_false h0
    clear hk
    go_enter Tryd.func10, Tryd.ntmps10
    go_wp2
    exact bodyPost_ret (v := .tuple #[.agg #[.int .i64 0, .int .i64 0], .int .i64 2]) (by simp [results, Tryd.results10, go_sem]) rfl ⟨rfl, (Below.refl _ _).alloc (Nat.le_refl _) _⟩
end Go.Proofs.YthimmohbedaimaaDoor.Gl
