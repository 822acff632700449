/- The program's characters, Name. -/
import Derived.Test.YtabfhdmcljdjhaaDoorGlE
import Derived.Laws.RangeAny
import Derived.Test.YtabfhdmcljdjhaaDoorLxF
import Derived.Laws.StructEq
namespace Go.Proofs.YtabfhdmcljdjhaaDoor.Gl
open Go.RowKit
set_option linter.unusedVariables false

theorem iter_below (w : World) (s : ByteArray) (p : Nat) : Below w.heap.size w (w.iter s p) := (Below.refl _ _).alloc (Nat.le_refl _) _
theorem next_at (w : World) (s : ByteArray) (p r wd : Nat) (hp : p < s.size) (h1 : (rdS s p).1 = r) (h2 : (rdS s p).2.1 = wd) (ty : TypeId) :
    (Instr.next (.pointer (some ⟨w.heap.size, 0, none⟩)) true ty).run Tryd.prog (w.iter s p) = .ok (.tuple #[.bool true, .int .i64 p, .int .i32 r]) (w.iter s (p + wd)) := by
  subst h1; subst h2
  exact run_next_any w s p ty hp
theorem ok_of_re {s : ByteArray} {p : Nat} (h : reB ((rdS s p).1 : Nat) = true) : (rdS s p).2.2 = true := by
  unfold rdS at h ⊢
  dsimp only at h ⊢
  by_cases hc : (Utf8.decode s p).1 = 65533
  · rw [hc] at h; exact absurd h (by decide)
  · have : ((Utf8.decode s p).1 == 65533) = false := by simpa using hc
    rw [this]; rfl
set_option maxHeartbeats 2000000 in
theorem name_at (s : ByteArray) (b : Bool) (w : World) (hs : s.size ≤ 9223372036854775807) (hb : b = true ↔ IsName s) :
    Calls Tryd.prog 49 #[.string s] w fun e w' => e = .returned (.bool b) ∧ Below w.heap.size w w' := by
  have HB : Hid (b = true ↔ IsName s) := hb
  clear hb
  go_enter Tryd.func49, Tryd.ntmps49
  go_wp2
  go_loopw [3] (fun m wr => ∃ k : Nat, k ≤ 16 ∧ m = .int .i64 k ∧ wr = w.iter s (pos s k) ∧ Hid (Nms s k)) (fun _ wr => s.size - wr.iterPos w.heap.size)
  case atStart => exact ⟨0, by omega, rfl, rfl, fun j hj => absurd hj (by omega)⟩
  case round =>
    obtain ⟨k, hk16, rfl, rfl, hall⟩ := hrel
    obtain ⟨hg1, hg2⟩ := pos_ge s k hall.out.lt
    by_cases hlt : pos s k < s.size
    · obtain ⟨hb1, hb2, hb3⟩ := rd_bd s (pos s k) hlt
      have HS : Hid (pos s (k + 1) = pos s k + (rdS s (pos s k)).2.1) := pos_succ s k
      have HNO : Hid (¬ (reB ((rdS s (pos s k)).1 : Nat) = true ∧ (k = 0 → stB ((rdS s (pos s k)).1 : Nat) = true)) → b = false) := fun h => by
        cases b with
        | false => rfl
        | true => exact absurd (HB.out.1 rfl) (name_no hlt hall.out.lt (fun h' => h h'.2))
      have HYES : Hid (reB ((rdS s (pos s k)).1 : Nat) = true ∧ (k = 0 → stB ((rdS s (pos s k)).1 : Nat) = true) → Nms s (k + 1)) := fun h j hj => by
        rcases Nat.lt_succ_iff_lt_or_eq.1 hj with hj | rfl
        · exact hall.out j hj
        · exact ⟨hlt, ok_of_re h.1, h⟩
      have H16 : Hid (k = 16 → b = false) := fun h => by
        cases b with
        | false => rfl
        | true =>
          obtain ⟨⟨n, hn, _, h2, _⟩, _⟩ := HB.out.1 rfl
          have hkn : k + 1 ≤ n := cnt_lt hn (fun j hj => by
            rcases Nat.lt_succ_iff_lt_or_eq.1 hj with hj | rfl
            · exact hall.out.lt j hj
            · exact hlt)
          omega
      have hnx := next_at w s (pos s k) _ _ hlt rfl rfl
      generalize hp : pos s k = p at *
      clear hp
      generalize hr : (rdS s p).1 = r at *
      generalize hw : (rdS s p).2.1 = wd at *
      clear hr hw
      by_cases h16 : k = 16
      · have HE : Hid (b = false) := H16.out h16
        subst h16
        clear HNO HYES H16
        go_wp2
        go_ret
        exact ⟨retb HE.out.symm, iter_below _ _ _⟩
      · have hk16' : ((k : Int) == 16) = false := by simp; omega
        have hk17 : k + 1 ≤ 16 := by omega
        have RS : ∀ c, reB (r : Nat) = c → Hid (∀ w, Calls Tryd.prog 41 #[.int .i32 (r : Nat)] w fun e w' => e = .returned (.bool c) ∧ w = w') := fun c h w => by rw [← h]; exact rest_at r w
        have SS : ∀ c, stB (r : Nat) = c → Hid (∀ w, Calls Tryd.prog 39 #[.int .i32 (r : Nat)] w fun e w' => e = .returned (.bool c) ∧ w = w') := fun c h w => by rw [← h]; exact start_at r w
        clear h16
        cases hre : reB (r : Nat) with
        | false =>
          have HE : Hid (b = false) := HNO.out (fun h => by have := h.1; rw [hre] at this; cases this)
          have R0 := RS _ hre
          clear SS RS hre HNO HYES H16
          go_wp2_with (go_at_call 41; refine (R0.out _).mono ?_; rintro e w2 ⟨rfl, rfl⟩)
          go_ret
          exact ⟨retb HE.out.symm, iter_below _ _ _⟩
        | true =>
          have R0 := RS _ hre
          rcases Nat.eq_zero_or_pos k with hk | hk
          · subst hk
            cases hst : stB (r : Nat) with
            | false =>
              have HE : Hid (b = false) := HNO.out (fun h => by have := h.2 rfl; rw [hst] at this; cases this)
              have S0 := SS _ hst
              clear SS RS hst hre HNO HYES H16
              go_wp2_with (first
                | (go_at_call 41; refine (R0.out _).mono ?_; rintro e w2 ⟨rfl, rfl⟩)
                | (go_at_call 39; refine (S0.out _).mono ?_; rintro e w2 ⟨rfl, rfl⟩))
              go_ret
              exact ⟨retb HE.out.symm, iter_below _ _ _⟩
            | true =>
              have HY : Hid (Nms s (0 + 1)) := HYES.out ⟨hre, fun _ => hst⟩
              have S0 := SS _ hst
              clear SS RS hst hre HNO HYES H16
              go_wp2_with (first
                | (go_at_call 41; refine (R0.out _).mono ?_; rintro e w2 ⟨rfl, rfl⟩)
                | (go_at_call 39; refine (S0.out _).mono ?_; rintro e w2 ⟨rfl, rfl⟩))
              go_roundw
              case rel => exact ⟨0 + 1, by omega, by go_num, by rw [HS.out], HY⟩
              case measure => simp only [World.iterPos_iter]; omega
          · have hk0 : ((k : Int) == 0) = false := by simp; omega
            have HY : Hid (Nms s (k + 1)) := HYES.out ⟨hre, fun h => by omega⟩
            clear SS RS hre HNO HYES H16
            go_wp2_with (go_at_call 41; refine (R0.out _).mono ?_; rintro e w2 ⟨rfl, rfl⟩)
            go_roundw
            case rel => exact ⟨k + 1, by omega, by go_num, by rw [HS.out], HY⟩
            case measure => simp only [World.iterPos_iter]; omega
    · have HC : Hid (IsCnt s k) := ⟨by omega, hall.out.lt⟩
      have HP : Hid (b = true ↔ 1 ≤ k ∧ rsB s = false) := by
        show _ ↔ _
        rw [HB.out]
        constructor
        · rintro ⟨⟨n, hn, h1, h2, _⟩, h3⟩
          have := cnt_one hn HC.out
          exact ⟨by omega, h3⟩
        · rintro ⟨h1, h3⟩
          exact ⟨⟨k, HC.out, h1, hk16, hall.out⟩, h3⟩
      have hnx := fun ty => run_next_end (P := Tryd.prog) w s (pos s k) ty hlt
      generalize hp : pos s k = p at *
      clear hp
      by_cases hk : 1 ≤ k
      · have RV : ∀ c, rsB s = c → Hid (∀ w, Calls Tryd.prog 54 #[.string s] w fun e w' => e = .returned (.bool c) ∧ w = w') := fun c h w => by rw [← h]; exact reserved_at s w
        cases hrs : rsB s with
        | false =>
          have HE : Hid (b = true) := HP.out.2 ⟨hk, hrs⟩
          have R0 := RV _ hrs
          clear RV hrs
          go_wp2_with (go_at_call 54; refine (R0.out _).mono ?_; rintro e w2 ⟨rfl, rfl⟩)
          go_ret
          exact ⟨retb HE.out.symm, iter_below _ _ _⟩
        | true =>
          have HE : Hid (b = false) := by
            cases b with
            | false => rfl
            | true => have := (HP.out.1 rfl).2; rw [hrs] at this; cases this
          have R0 := RV _ hrs
          clear RV hrs
          go_wp2_with (go_at_call 54; refine (R0.out _).mono ?_; rintro e w2 ⟨rfl, rfl⟩)
          go_ret
          exact ⟨retb HE.out.symm, iter_below _ _ _⟩
      · have HE : Hid (b = false) := by
          cases b with
          | false => rfl
          | true => exact absurd (HP.out.1 rfl).1 hk
        obtain rfl : k = 0 := by omega
        clear hk
        go_wp2
        go_ret
        exact ⟨retb HE.out.symm, iter_below _ _ _⟩
end Go.Proofs.YtabfhdmcljdjhaaDoor.Gl
/- The program's Good, At. -/
namespace Go.Proofs.YtabfhdmcljdjhaaDoor.Gl
open Go.RowKit
set_option linter.unusedVariables false

theorem bool_of_iff {a b : Bool} (h : a = true ↔ b = true) : a = b := Bool.eq_iff_iff.2 h
theorem hp_in (t : ByteArray) (b : Bool) (w : World) (hs : t.size ≤ 9223372036854775807) (h3 : 3 ≤ t.size) (hb : ((t.extract 0 3).toList == [239, 191, 189]) = b) :
    Calls Tryd.prog 50 #[.string t, .string ⟨#[239, 191, 189]⟩] w fun e w' => e = .returned (.bool b) ∧ w = w' := by
  have HE : Hid (((t.extract 0 3).toList == [239, 191, 189]) = b) := hb
  have h3' : (3 : Int) ≤ (t.size : Int) := by omega
  clear hb
  go_enter Tryd.func50, Tryd.ntmps50
  go_wp2
  go_ret
  exact ⟨retb HE.out, rfl⟩
theorem hp_no (t : ByteArray) (w : World) (h3 : t.size < 3) :
    Calls Tryd.prog 50 #[.string t, .string ⟨#[239, 191, 189]⟩] w fun e w' => e = .returned (.bool false) ∧ w = w' := by
  have h3' : decide ((3 : Int) ≤ (t.size : Int)) = false := decide_eq_false (by omega)
  go_enter Tryd.func50, Tryd.ntmps50
  go_wp2
  go_ret
  exact ⟨rfl, rfl⟩
theorem pre_at (s : ByteArray) (p : Nat) (b : Bool) (w : World) (hs : s.size ≤ 9223372036854775807) (hp : p ≤ s.size) (hb : b = true ↔ Fd s p) :
    Calls Tryd.prog 38 #[.string (s.extract p s.size), .string ⟨#[239, 191, 189]⟩] w fun e w' => e = .returned (.bool b) ∧ w = w' := by
  have K : Hid (∀ w, Calls Tryd.prog 50 #[.string (s.extract p s.size), .string ⟨#[239, 191, 189]⟩] w fun e w' => e = .returned (.bool b) ∧ w = w') := fun w => by
    by_cases h3 : 3 ≤ (s.extract p s.size).size
    · exact hp_in _ b w (by rw [ByteArray.size_extract]; omega) h3 (bool_of_iff ((pre3_iff s p hp h3).trans hb.symm))
    · have : b = false := by
        cases b with
        | false => rfl
        | true => exact absurd (hb.1 rfl) (pre3_no s p hp (by omega))
      rw [this]
      exact hp_no _ w (by omega)
  clear hb
  generalize s.extract p s.size = t at *
  go_enter Tryd.func38, Tryd.ntmps38
  go_wp2_with (go_at_call 50; refine (K.out _).mono ?_; rintro e w2 ⟨rfl, rfl⟩)
  go_ret
  exact ⟨rfl, rfl⟩
set_option maxHeartbeats 1000000 in
theorem good_at (s : ByteArray) (g : Nat) (w : World) (hs : s.size ≤ 9223372036854775807) (hg : IsGood s g) :
    Calls Tryd.prog 29 #[.string s] w fun e w' => e = .returned (.int .i64 g) ∧ Below w.heap.size w w' := by
  have HG : Hid (IsGood s g) := hg
  clear hg
  go_enter Tryd.func29, Tryd.ntmps29
  go_wp2
  go_loopw [] (fun wr => ∃ k : Nat, wr = w.iter s (pos s k) ∧ Hid (Oks s k)) (fun wr => s.size - wr.iterPos w.heap.size)
  case atStart => exact ⟨0, rfl, fun j hj => absurd hj (by omega)⟩
  case round =>
    obtain ⟨k, rfl, hall⟩ := hrel
    obtain ⟨hg1, hg2⟩ := pos_ge s k hall.out.lt
    by_cases hlt : pos s k < s.size
    · obtain ⟨hb1, hb2, hb3⟩ := rd_bd s (pos s k) hlt
      have HS : Hid (pos s (k + 1) = pos s k + (rdS s (pos s k)).2.1) := pos_succ s k
      have hnx := next_at w s (pos s k) _ _ hlt rfl rfl
      have HYES : Hid ((rdS s (pos s k)).2.2 = true → Oks s (k + 1)) := fun h j hj => by
        rcases Nat.lt_succ_iff_lt_or_eq.1 hj with hj | rfl
        · exact hall.out j hj
        · exact ⟨hlt, h⟩
      have HNO : Hid ((rdS s (pos s k)).2.2 = false → ((pos s k : Nat) : Int) = (g : Int)) := fun h => by
        have := good_one HG.out ⟨k, rfl, hall.out, .inr ⟨hlt, h⟩⟩
        omega
      have HF : Hid ((rdS s (pos s k)).1 = 65533 → ((rdS s (pos s k)).2.2 = true ↔ Fd s (pos s k))) := rd_fffd s (pos s k) hlt
      have HO : Hid ((rdS s (pos s k)).1 ≠ 65533 → (rdS s (pos s k)).2.2 = true) := rd_ok s (pos s k)
      have PR : Hid (∀ b, (b = true ↔ Fd s (pos s k)) → ∀ w, Calls Tryd.prog 38 #[.string (s.extract (pos s k) s.size), .string ⟨#[239, 191, 189]⟩] w fun e w' => e = .returned (.bool b) ∧ w = w') := fun b hb w => pre_at s (pos s k) b w hs hg2 hb
      generalize hp : pos s k = p at *
      clear hp
      generalize hr : (rdS s p).1 = r at *
      generalize hw : (rdS s p).2.1 = wd at *
      generalize ho : (rdS s p).2.2 = ok at *
      clear hr hw ho
      by_cases h : r = 65533
      · have P0 : Hid (∀ w, Calls Tryd.prog 38 #[.string (s.extract p s.size), .string ⟨#[239, 191, 189]⟩] w fun e w' => e = .returned (.bool ok) ∧ w = w') := PR.out ok (HF.out h)
        subst h
        cases ok with
        | true =>
          have HY : Hid (Oks s (k + 1)) := HYES.out rfl
          clear HYES HNO HF HO PR
          go_wp2_with (go_at_call 38; refine (P0.out _).mono ?_; rintro e w2 ⟨rfl, rfl⟩)
          go_roundw
          case rel => exact ⟨k + 1, by rw [HS.out], HY⟩
          case measure => simp only [World.iterPos_iter]; omega
        | false =>
          have HE : Hid ((p : Int) = (g : Int)) := HNO.out rfl
          clear HYES HNO HF HO PR
          go_wp2_with (go_at_call 38; refine (P0.out _).mono ?_; rintro e w2 ⟨rfl, rfl⟩)
          go_ret
          exact ⟨ret1 HE.out, iter_below _ _ _⟩
      · have HY : Hid (Oks s (k + 1)) := HYES.out (HO.out h)
        have h' : ((r : Int) == 65533) = false := by simp; omega
        clear HYES HNO HF HO PR
        go_wp2
        go_roundw
        case rel => exact ⟨k + 1, by rw [HS.out], HY⟩
        case measure => simp only [World.iterPos_iter]; omega
    · have HE : Hid ((s.size : Int) = (g : Int)) := by
        have := good_one HG.out ⟨k, rfl, hall.out, .inl (by omega)⟩
        show _ = _
        omega
      have hnx := fun ty => run_next_end (P := Tryd.prog) w s (pos s k) ty hlt
      generalize hp : pos s k = p at *
      clear hp
      go_wp2
      go_ret
      exact ⟨ret1 HE.out, iter_below _ _ _⟩
theorem bcell {W w1 : World} (hb : Below W.heap.size W w1) : (∀ b o, b < W.heap.size → w1.cell? ⟨b, o, none⟩ = W.cell? ⟨b, o, none⟩) ∧ (∀ b o, b < W.heap.size → w1.frozen? ⟨b, o, none⟩ = W.frozen? ⟨b, o, none⟩) :=
  ⟨fun b o h => hb.cell (p := ⟨b, o, none⟩) h, fun b o h => hb.frozen (p := ⟨b, o, none⟩) h⟩
end Go.Proofs.YtabfhdmcljdjhaaDoor.Gl
/- The law's fixed; the walks of GlyphChars, GlyphNames. -/
namespace Go.Proofs.YtabfhdmcljdjhaaDoor.Gl
open Go.RowKit
set_option linter.unusedVariables false

theorem bt2 {w w1 w2 : World} (h : Below w.heap.size w w1) (k : Below w1.heap.size w1 w2) : Below w.heap.size w w2 := h.trans (k.mono h.size)
theorem bta {w w1 : World} (h : Below w.heap.size w w1) (o : Obj) : Below w.heap.size w (w1.alloc o) := h.alloc h.size o
theorem fx_cnt : IsCnt ((⟨#[97, 195, 169, 98]⟩ : ByteArray).extract 0 3) 2 := by unfold IsCnt; decide +kernel
theorem fx_yes : IsName ⟨#[206, 177, 226, 130, 129]⟩ := by
  refine ⟨⟨2, by unfold IsCnt; decide +kernel, by omega, by omega, ?_⟩, by decide +kernel⟩
  unfold Nms; decide +kernel
theorem fx_no : ¬ IsName ⟨#[97, 110, 100]⟩ := fun h => absurd h.2 (by decide +kernel)
open Classical in
theorem bool_for (p : Prop) : ∃ b : Bool, b = true ↔ p := ⟨decide p, by simp⟩
theorem good_is (s : ByteArray) : ∃ g, IsGood s g := by
  have key : ∀ n, (∃ g, IsGood s g) ∨ (n ≤ pos s n ∧ Oks s n) := by
    intro n
    induction n with
    | zero => right; exact ⟨Nat.zero_le _, fun j hj => absurd hj (by omega)⟩
    | succ n ih =>
      rcases ih with h | ⟨h1, h2⟩
      · exact .inl h
      · have hle := (pos_ge s n h2.lt).2
        by_cases hlt : pos s n < s.size
        · cases ho : (rdS s (pos s n)).2.2 with
          | true =>
            right
            refine ⟨?_, fun j hj => ?_⟩
            · have := rd_bd s (pos s n) hlt
              rw [pos_succ]; omega
            · rcases Nat.lt_succ_iff_lt_or_eq.1 hj with hj | rfl
              · exact h2 j hj
              · exact ⟨hlt, ho⟩
          | false => left; exact ⟨_, n, rfl, h2, .inr ⟨hlt, ho⟩⟩
        · left; exact ⟨_, n, rfl, h2, .inl (by omega)⟩
  rcases key (s.size + 1) with h | ⟨h1, h2⟩
  · exact h
  · have := (pos_ge s (s.size + 1) h2.lt).2
    omega
end Go.Proofs.YtabfhdmcljdjhaaDoor.Gl
/- The walks of GlyphPlaces, GlyphClasses. -/
namespace Go.Proofs.YtabfhdmcljdjhaaDoor.Gl
open Go.RowKit
set_option linter.unusedVariables false

theorem below_drewn {B : Nat} {w w1 : World} (h : Below B w w1) (n : Nat) : Below B w (w1.drewN n) := h.trans ⟨rfl, rfl, rfl, Nat.le_refl _, fun _ _ => rfl⟩
theorem cell_keep {W w1 : World} {x y : Value} {t : TypeId} (hb : Below (W.alloc (.cells #[x, y] t)).heap.size (W.alloc (.cells #[x, y] t)) w1) : w1.cell? ⟨W.heap.size, 0, none⟩ = some x ∧ w1.cell? ⟨W.heap.size, 1, none⟩ = some y := by
  obtain ⟨hc, _⟩ := bcell hb
  constructor
  · rw [hc _ _ (by simp)]; simp
  · rw [hc _ _ (by simp)]; simp
theorem pl_of {r : Int} (h : plB r ≠ emp) : r ∈ marks := by
  by_cases hm : r ∈ marks
  · exact hm
  · exact absurd (pl_none r (fun m h' e => hm (e ▸ h'))) h
/-- what a sign stands for is made of plain characters -/
def plainB (x : ByteArray) : Bool := x.data.all (fun c => 33 ≤ c.toNat && c.toNat < 128)
theorem plain_get {x : ByteArray} (h : plainB x = true) (i : Nat) (hi : i < x.size) : 33 ≤ x[i].toNat ∧ x[i].toNat < 128 := by
  unfold plainB at h
  rw [Array.all_eq_true] at h
  have := h i hi
  simp only [Bool.and_eq_true, decide_eq_true_eq] at this
  exact this
theorem marks_all : ∀ r ∈ marks, stB r = false ∧ reB r = false ∧ blB r = false ∧ (plainB (plB r) = true ∧ (plB r).size ≤ 3) ∧ 0 ≤ r ∧ r ≤ 1114111 := by decide +kernel
theorem bl_re {r : Int} (h : blB r = true) : reB r = false ∧ r ∉ marks ∧ stB r = false := by
  have h' := of_decide_eq_true h
  rcases h' with rfl | rfl | rfl | rfl <;> decide +kernel
theorem re_bd {r : Int} (h : reB r = true) : 0 ≤ r ∧ r ≤ 1114111 := by
  rw [re_eq, st_eq] at h
  unfold laB grB at h
  simp only [Bool.or_eq_true, decide_eq_true_eq] at h
  omega
theorem bl_bd {r : Int} (h : blB r = true) : 0 ≤ r ∧ r ≤ 1114111 := by
  have h' := of_decide_eq_true h
  omega
end Go.Proofs.YtabfhdmcljdjhaaDoor.Gl
/- Words in memory; the law's same. -/
namespace Go.Proofs.YtabfhdmcljdjhaaDoor.Gl
open Go.RowKit
set_option linter.unusedVariables false

/-- a word with its place -/
structure FW where
  kind : Nat
  text : ByteArray
  num : Nat
  byte : Nat
  char : Nat
instance : Inhabited FW := ⟨⟨0, emp, 0, 0, 0⟩⟩
def FW.cells (x : FW) : List Value := [.int .i64 x.kind, .string x.text, .int .i64 x.num, .int .i64 x.byte, .int .i64 x.char]
def FW.val (x : FW) : Value := .agg #[.int .i64 x.kind, .string x.text, .int .i64 x.num, .int .i64 x.byte, .int .i64 x.char]
def full (s : ByteArray) (w : Wd) : FW := ⟨w.kind, w.text, w.num, w.byte, cnt (s.extract 0 w.byte)⟩
/-- the slice reads as the words ws -/
structure RdW (w : World) (ao : Option Addr) (len cap : Nat) (ws : List FW) : Prop where
  eqlen : ws.length = len
  lecap : len ≤ cap
  lemax : cap ≤ 9223372036854775807
  isnil : ao = none → cap = 0
  cell : ∀ i, i < len → ∃ b off, ao = some ⟨b, off, none⟩ ∧ b < w.heap.size ∧ w.cell? ⟨b, off + i * 5, none⟩ = some (.int .i64 (ws.getD i default).kind) ∧ w.cell? ⟨b, off + i * 5 + 1, none⟩ = some (.string (ws.getD i default).text) ∧
    w.cell? ⟨b, off + i * 5 + 2, none⟩ = some (.int .i64 (ws.getD i default).num) ∧ w.cell? ⟨b, off + i * 5 + 3, none⟩ = some (.int .i64 (ws.getD i default).byte) ∧ w.cell? ⟨b, off + i * 5 + 4, none⟩ = some (.int .i64 (ws.getD i default).char)
theorem RdW.below {w w' : World} {ao : Option Addr} {len cap : Nat} {ws : List FW} (h : RdW w ao len cap ws) {B : Nat} (hB : w.heap.size ≤ B) (hb : Below B w w') : RdW w' ao len cap ws := by
  refine ⟨h.eqlen, h.lecap, h.lemax, h.isnil, fun i hi => ?_⟩
  obtain ⟨b, off, rfl, hlt, h0, h1, h2, h3, h4⟩ := h.cell i hi
  have k : ∀ o v, w.cell? ⟨b, o, none⟩ = some v → w'.cell? ⟨b, o, none⟩ = some v := fun o v e => (hb.cell (p := ⟨b, o, none⟩) (Nat.lt_of_lt_of_le hlt hB)).trans e
  exact ⟨b, off, rfl, Nat.lt_of_lt_of_le hlt hb.size, k _ _ h0, k _ _ h1, k _ _ h2, k _ _ h3, k _ _ h4⟩
end Go.Proofs.YtabfhdmcljdjhaaDoor.Gl
