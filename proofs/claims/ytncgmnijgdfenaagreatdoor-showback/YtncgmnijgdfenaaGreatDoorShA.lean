/- Words of a text that goes on with a byte c that ends a word: plain mathematics. Out of PaE. -/
import Derived.Test.YtncgmnijgdfenaaGreatDoorGlK
import Derived.Test.YtncgmnijgdfenaaGreatDoorPcA
import Derived.Test.YtncgmnijgdfenaaGreatDoorPcP
import Derived.Test.YtncgmnijgdfenaaGreatDoorShS
namespace Go.Proofs.YtncgmnijgdfenaaGreatDoor.Gl
set_option linter.unusedVariables false

/-- a byte that goes on no word -/
structure Sep (c : Nat) : Prop where
  lt : c < 128
  nr : reN c = false
  nd : isDig c = false
  ns : ∀ x ∈ allSigns, ∀ j, j < x.size → 0 < j → bt x j ≠ c
/-- u from d on goes as s does, and then goes on with the byte c -/
structure SimK (c : Nat) (u : ByteArray) (d : Nat) (s : ByteArray) : Prop where
  sep : Sep c
  size : d + s.size ≤ u.size
  byte : ∀ j, j < s.size → bt u (d + j) = bt s j
  stop : d + s.size = u.size ∨ bt u (d + s.size) = c
theorem acc_simk {u s : ByteArray} {d c : Nat} (h : SimK c u d s) (p x0 : Nat) : ∀ j, p + j < s.size → accB u (d + p) x0 j = accB s p x0 j
  | 0, _ => rfl
  | j + 1, hj => by
    rw [acc_succ, acc_succ, acc_simk h p x0 j (by omega), show d + p + (j + 1) = d + (p + (j + 1)) by omega, h.byte (p + (j + 1)) hj]
theorem cond_simk {u s : ByteArray} {d c : Nat} (h : SimK c u d s) (p x0 m : Nat) (Q : Nat → Prop) (hp : p < s.size) :
    (m < u.size - (d + p) ∧ (∀ k, k < m → 128 ≤ bt u (d + p + (k + 1)) ∧ bt u (d + p + (k + 1)) < 192) ∧ Q (accB u (d + p) x0 m)) ↔
    (m < s.size - p ∧ (∀ k, k < m → 128 ≤ bt s (p + (k + 1)) ∧ bt s (p + (k + 1)) < 192) ∧ Q (accB s p x0 m)) := by
  have hsz := h.size
  have hclt := h.sep.lt
  constructor
  · rintro ⟨h1, h2, h3⟩
    have hm : p + m < s.size := by
      by_cases hc : p + m < s.size
      · exact hc
      · have := h2 (s.size - p - 1) (by omega)
        rw [show d + p + (s.size - p - 1 + 1) = d + s.size by omega] at this
        rcases h.stop with e | e <;> omega
    refine ⟨by omega, fun k hk => ?_, ?_⟩
    · have := h2 k hk
      rwa [show d + p + (k + 1) = d + (p + (k + 1)) by omega, h.byte _ (by omega)] at this
    · rwa [acc_simk h p x0 m hm] at h3
  · rintro ⟨h1, h2, h3⟩
    refine ⟨by omega, fun k hk => ?_, ?_⟩
    · rw [show d + p + (k + 1) = d + (p + (k + 1)) by omega, h.byte _ (by omega)]; exact h2 k hk
    · rw [acc_simk h p x0 m (by omega)]; exact h3
theorem rd_simk {u s : ByteArray} {d c : Nat} (h : SimK c u d s) (p : Nat) (hp : p < s.size) : rdS u (d + p) = rdS s p := by
  have hb := bt_lt s p
  have e0 := h.byte p hp
  by_cases h1 : bt s p < 128
  · rw [rd_one s p h1, rd_one u _ (by rw [e0]; exact h1), e0]
  · by_cases h2 : (128 ≤ bt s p ∧ bt s p < 194) ∨ 245 ≤ bt s p
    · rw [rd_bad0 s p h2, rd_bad0 u _ (by rw [e0]; exact h2)]
    · by_cases h3 : bt s p < 224
      · rw [rd_two s p (by omega), rd_two u _ (by rw [e0]; omega), e0]
        have hq := cond_simk h p (bt s p - 192) 1 (fun x => 128 ≤ x ∧ x ≤ 1114111 ∧ ¬ (55296 ≤ x ∧ x ≤ 57343)) hp
        split
        · rename_i hc
          have hd := hq.1 hc
          have := hd.1
          rw [if_pos hd, acc_simk h p _ 1 (by omega)]
        · rename_i hc
          rw [if_neg (fun e => hc (hq.2 e))]
      · by_cases h4 : bt s p < 240
        · rw [rd_three s p (by omega), rd_three u _ (by rw [e0]; omega), e0]
          have hq := cond_simk h p (bt s p - 224) 2 (fun x => 2048 ≤ x ∧ x ≤ 1114111 ∧ ¬ (55296 ≤ x ∧ x ≤ 57343)) hp
          split
          · rename_i hc
            have hd := hq.1 hc
            have := hd.1
            rw [if_pos hd, acc_simk h p _ 2 (by omega)]
          · rename_i hc
            rw [if_neg (fun e => hc (hq.2 e))]
        · rw [rd_four s p (by omega), rd_four u _ (by rw [e0]; omega), e0]
          have hq := cond_simk h p (bt s p - 240) 3 (fun x => 65536 ≤ x ∧ x ≤ 1114111 ∧ ¬ (55296 ≤ x ∧ x ≤ 57343)) hp
          split
          · rename_i hc
            have hd := hq.1 hc
            have := hd.1
            rw [if_pos hd, acc_simk h p _ 3 (by omega)]
          · rename_i hc
            rw [if_neg (fun e => hc (hq.2 e))]
theorem RunTo.simk {P : Nat → Bool} {u s : ByteArray} {d c : Nat} (h : SimK c u d s) {p q : Nat} (k : RunTo P s p q) : RunTo P u (d + p) (d + q) := by
  induction k with
  | nil => exact .nil _
  | cons a b c _ ih =>
    have e := rd_simk h _ a
    refine .cons (by have := h.size; omega) (by rw [e]; exact b) (by rw [e]; exact c) ?_
    rw [e, Nat.add_assoc]
    exact ih
theorem rd_sep {s : ByteArray} {p c : Nat} (hc : c < 128) (h : bt s p = c) : rdS s p = (c, 1, true) := by rw [rd_one s p (by omega), h]
theorem ends_simk {P : Nat → Bool} {u s : ByteArray} {d c : Nat} (h : SimK c u d s) (hP : P c = false) {q : Nat} (hq : q ≤ s.size) (k : Ends P s q) : Ends P u (d + q) := by
  rintro ⟨a, b, hc3⟩
  by_cases hlt : q < s.size
  · rw [rd_simk h q hlt] at b hc3
    exact k ⟨hlt, b, hc3⟩
  · obtain rfl : q = s.size := by omega
    rcases h.stop with e | e
    · omega
    · rw [rd_sep h.sep.lt e] at hc3
      rw [hP] at hc3; cases hc3
theorem run_simk {P : Nat → Bool} {u s : ByteArray} {d c : Nat} (h : SimK c u d s) (hP : P c = false) {p : Nat} (hp : p ≤ s.size) : run P u (d + p) = d + run P s p :=
  run_is ((run_run P s p).simk h) (ends_simk h hP ((run_run P s p).le_size hp) (run_ends P s p))
theorem fits_simk {u s : ByteArray} {d c : Nat} (h : SimK c u d s) {p : Nat} (hp : p < s.size) (x : ByteArray) (hx : ∀ j, j < x.size → 0 < j → bt x j ≠ c) : fits u (d + p) x = fits s p x := by
  rw [Bool.eq_iff_iff, fits_iff, fits_iff]
  have hsz := h.size
  have hclt := h.sep.lt
  constructor
  · rintro ⟨h1, h2⟩
    have hle : p + x.size ≤ s.size := by
      by_cases hc : p + x.size ≤ s.size
      · exact hc
      · have h3 := h2 (s.size - p) (by omega)
        rw [show d + p + (s.size - p) = d + s.size by omega] at h3
        have h4 := hx (s.size - p) (by omega) (by omega)
        rcases h.stop with e | e <;> omega
    refine ⟨hle, fun j hj => ?_⟩
    have := h2 j hj
    rwa [Nat.add_assoc, h.byte _ (by omega)] at this
  · rintro ⟨h1, h2⟩
    refine ⟨by omega, fun j hj => ?_⟩
    rw [Nat.add_assoc, h.byte _ (by omega)]
    exact h2 j hj
theorem sgn_simk {u s : ByteArray} {d c : Nat} (h : SimK c u d s) {p : Nat} (hp : p < s.size) : sgn u (d + p) = sgn s p :=
  longest_congr _ _ (fun x hx => fits_simk h hp x (fun j hj hj0 => h.sep.ns x hx j hj hj0))
theorem extract_simk {u s : ByteArray} {d c : Nat} (h : SimK c u d s) {p q : Nat} (hq : q ≤ s.size) : u.extract (d + p) (d + q) = s.extract p q :=
  extract_eq hq (by have := h.size; omega) (by omega) (fun k hk => by rw [Nat.add_assoc]; exact h.byte _ (by omega))
theorem tok_simk {u s : ByteArray} {d c : Nat} (h : SimK c u d s) {p : Nat} (hp : p < s.size) : tok u (d + p) = (tok s p).move d := by
  have e := rd_simk h p hp
  have r1 := run_simk h (P := reN) h.sep.nr (Nat.le_of_lt hp)
  have r2 := run_simk h (P := isDig) h.sep.nd (Nat.le_of_lt hp)
  have l1 := (run_run reN s p).le_size (Nat.le_of_lt hp)
  have l2 := (run_run isDig s p).le_size (Nat.le_of_lt hp)
  have g2 := (run_run isDig s p).le
  have x1 := extract_simk h (p := p) l1
  have v2 : valF u (d + p) (d + run isDig s p - (d + p)) = valF s p (run isDig s p - p) := by
    rw [show d + run isDig s p - (d + p) = run isDig s p - p by omega]
    exact valF_congr _ (fun j hj => by rw [Nat.add_assoc]; exact h.byte _ (by omega))
  have s1 := sgn_simk h hp
  unfold tok
  rw [e, r1, r2, x1, v2, s1]
  split
  · rfl
  · split
    · rfl
    · split
      · split
        · rfl
        · split <;> rfl
      · split
        · split <;> rfl
        · split
          · rw [Nat.add_assoc]; rfl
          · split
            · rfl
            · rw [Nat.add_assoc]; rfl
/-- words ahead of what follows -/
theorem Lx.simk {u s : ByteArray} {d c : Nat} (h : SimK c u d s) {p : Nat} {a : List Wd} {f : Option (Nat × Nat)} (k : Lx s p a f) (hp : p ≤ s.size) : 
    (∀ b g, f = none → Lx u (d + s.size) b g → Lx u (d + p) (a.map (Wd.move d) ++ b) g) ∧ (∀ c' e, f = some (c', e) → Lx u (d + p) (a.map (Wd.move d)) (some (c', d + e))) := by
  have hsz := h.size
  have hclt := h.sep.lt
  induction k with
  | done hd =>
    refine ⟨fun b g _ l => ?_, fun c' e he => (by cases he)⟩
    obtain rfl : _ = s.size := Nat.le_antisymm hp hd
    exact l
  | blank a b k ih =>
    have := ih (by omega)
    have ht := tok_simk h a
    rw [b] at ht
    exact ⟨fun b' g e l => .blank (by omega) ht (this.1 b' g e l), fun c' e he => .blank (by omega) ht (this.2 c' e he)⟩
  | bad a b =>
    have ht := tok_simk h a
    rw [b] at ht
    refine ⟨fun b' g e l => (by cases e), fun c' e he => ?_⟩
    cases he
    exact .bad (by omega) ht
  | word a b k ih =>
    have hq := tok_to a b
    have := ih hq.2
    have ht := tok_simk h a
    rw [b] at ht
    exact ⟨fun b' g e l => .word (by omega) ht (this.1 b' g e l), fun c' e he => .word (by omega) ht (this.2 c' e he)⟩
/- the bytes that end words in the laws' texts -/
theorem sep_blank : Sep 32 := ⟨by decide, by decide +kernel, by decide, by decide +kernel⟩
theorem sep_open : Sep 40 := ⟨by decide, by decide +kernel, by decide, by decide +kernel⟩
theorem sep_shut : Sep 41 := ⟨by decide, by decide +kernel, by decide, by decide +kernel⟩
theorem sep_comma : Sep 44 := ⟨by decide, by decide +kernel, by decide, by decide +kernel⟩
theorem sep_dot : Sep 46 := ⟨by decide, by decide +kernel, by decide, by decide +kernel⟩
/- a bracket, whatever follows -/
theorem fits_first {u : ByteArray} {p : Nat} {x : ByteArray} (h : fits u p x = true) (hx : 0 < x.size) : bt u p = bt x 0 := by
  have := ((fits_iff _ _ _).1 h).2 0 hx
  simpa using this
theorem lone_first : ∀ x ∈ allSigns, (bt x 0 = 40 → x = kOpen) ∧ (bt x 0 = 41 → x = kShut) ∧ 0 < x.size := by decide +kernel
theorem sgn_lone {u v : ByteArray} {p : Nat} {b : Nat} (hb : b = 40 ∨ b = 41) (h : p < u.size) (h1 : bt u p = b) (hv : v.size = 1) (hv1 : bt v 0 = b) : sgn u p = sgn v 0 := by
  refine longest_congr _ _ (fun x hx => ?_)
  obtain ⟨ha, hs, hz⟩ := lone_first x hx
  rw [Bool.eq_iff_iff]
  constructor
  · intro hf
    have h0 := fits_first hf hz
    have hx1 : x.size = 1 ∧ bt x 0 = b := by
      rcases hb with rfl | rfl
      · rw [ha (by omega)]; exact ⟨rfl, rfl⟩
      · rw [hs (by omega)]; exact ⟨rfl, rfl⟩
    refine (fits_iff _ _ _).2 ⟨by omega, fun j hj => ?_⟩
    obtain rfl : j = 0 := by omega
    show bt v 0 = _
    omega
  · intro hf
    have h0 := fits_first hf hz
    have hx1 : x.size = 1 ∧ bt x 0 = b := by
      rcases hb with rfl | rfl
      · rw [ha (by omega)]; exact ⟨rfl, rfl⟩
      · rw [hs (by omega)]; exact ⟨rfl, rfl⟩
    refine (fits_iff _ _ _).2 ⟨by omega, fun j hj => ?_⟩
    obtain rfl : j = 0 := by omega
    show bt u (p + 0) = _
    rw [Nat.add_zero]
    omega
theorem tok_lone {u v : ByteArray} {p b : Nat} (hb : b = 40 ∨ b = 41) (h : p < u.size) (h1 : bt u p = b) (hv : v.size = 1) (hv1 : bt v 0 = b) (hsg : sgn v 0 = v) (hne : v ≠ emp) : tok u p = .word 2 v 0 (p + 1) := by
  have hr : rdS u p = (b, 1, true) := rd_sep (by omega) h1
  have hs := (sgn_lone hb h h1 hv hv1).trans hsg
  have e1 : blB ((b : Nat) : Int) = false := by rcases hb with rfl | rfl <;> decide +kernel
  have e2 : stB ((b : Nat) : Int) = false := by rcases hb with rfl | rfl <;> decide +kernel
  have e3 : isDig b = false := by rcases hb with rfl | rfl <;> decide
  have e4 : plB ((b : Nat) : Int) = emp := by rcases hb with rfl | rfl <;> decide +kernel
  unfold tok
  rw [hr]
  dsimp only
  rw [e1, if_neg (by decide), if_neg (by decide), e2, if_neg (by decide), e3, if_neg (by decide), e4, if_neg (by simp), hs, if_neg hne, hv]
theorem Lx.opens {u : ByteArray} {p : Nat} {ws : List Wd} {g : Option (Nat × Nat)} (h : p < u.size) (h1 : bt u p = 40) (k : Lx u (p + 1) ws g) : Lx u p (⟨2, kOpen, 0, p⟩ :: ws) g := .word h (tok_lone (v := kOpen) (.inl rfl) h h1 rfl rfl (by decide +kernel) (by decide)) k
theorem Lx.shuts {u : ByteArray} {p : Nat} {ws : List Wd} {g : Option (Nat × Nat)} (h : p < u.size) (h1 : bt u p = 41) (k : Lx u (p + 1) ws g) : Lx u p (⟨2, kShut, 0, p⟩ :: ws) g := .word h (tok_lone (v := kShut) (.inr rfl) h h1 rfl rfl (by decide +kernel) (by decide)) k
theorem Lx.blanks {u : ByteArray} {p : Nat} {ws : List Wd} {g : Option (Nat × Nat)} (h : p < u.size) (h1 : bt u p = 32) (k : Lx u (p + 1) ws g) : Lx u p ws g := by
  refine .blank h ?_ k
  have hr : rdS u p = (32, 1, true) := rd_sep (by omega) h1
  have e1 : blB ((32 : Nat) : Int) = true := by decide +kernel
  unfold tok
  rw [hr, if_pos e1]
end Go.Proofs.YtncgmnijgdfenaaGreatDoor.Gl
/- Texts in brackets put together: their words, and what formula they are: plain mathematics. -/
namespace Go.Proofs.YtncgmnijgdfenaaGreatDoor.Gl
set_option linter.unusedVariables false
set_option linter.unusedSimpArgs false

/-- x stands in u from d on -/
structure AtT (u : ByteArray) (d : Nat) (x : ByteArray) : Prop where
  size : d + x.size ≤ u.size
  byte : ∀ j, j < x.size → bt u (d + j) = bt x j
theorem AtT.self (x : ByteArray) : AtT x 0 x := ⟨by omega, fun j _ => by rw [Nat.zero_add]⟩
theorem AtT.left {A B x : ByteArray} {d : Nat} (h : AtT A d x) : AtT (A ++ B) d x :=
  ⟨by rw [ByteArray.size_append]; have := h.size; omega, fun j hj => by rw [bt_app_left _ _ _ (by have := h.size; omega)]; exact h.byte j hj⟩
theorem AtT.right {A B x : ByteArray} {d : Nat} (h : AtT B d x) : AtT (A ++ B) (A.size + d) x :=
  ⟨by rw [ByteArray.size_append]; have := h.size; omega, fun j hj => by rw [Nat.add_assoc, bt_app_right _ _ _ (by have := h.size; omega)]; exact h.byte j hj⟩
theorem AtT.to {u x : ByteArray} {d d' : Nat} (h : AtT u d x) (e : d = d') : AtT u d' x := e ▸ h
theorem AtT.simk {u x : ByteArray} {d c : Nat} (h : AtT u d x) (hc : Sep c) (hn : bt u (d + x.size) = c) : SimK c u d x := ⟨hc, h.size, h.byte, .inr hn⟩
/-- a word ahead of a byte that ends words -/
theorem Lx.wordk {c k n : Nat} {u x v : ByteArray} {p : Nat} {ws : List Wd} {g : Option (Nat × Nat)} (h : SimK c u p x) (h0 : 0 < x.size) (ht : tok x 0 = .word k v n x.size) (hk : Lx u (p + x.size) ws g) : Lx u p (⟨k, v, n, p⟩ :: ws) g := by
  have := tok_simk h h0
  rw [ht, Nat.add_zero] at this
  exact .word (by have := h.size; omega) this hk
/-- a text in brackets -/
theorem Lx.brk {u s : ByteArray} {p : Nat} {a ws : List Wd} {g : Option (Nat × Nat)} (h0 : AtT u p kOpen) (h1 : AtT u (p + 1) s) (h2 : AtT u (p + 1 + s.size) kShut) (hs : Lx s 0 a none) (hk : Lx u (p + 1 + s.size + 1) ws g) :
    Lx u p (⟨2, kOpen, 0, p⟩ :: (a.map (Wd.move (p + 1)) ++ ⟨2, kShut, 0, p + 1 + s.size⟩ :: ws)) g := by
  have z1 : kOpen.size = 1 := rfl
  have z2 : kShut.size = 1 := rfl
  have s0 := h0.size
  have s2 := h2.size
  have b0 := h0.byte 0 (by decide)
  have b2 := h2.byte 0 (by decide)
  rw [Nat.add_zero] at b0 b2
  refine Lx.opens (by omega) b0 ?_
  have hk2 : SimK 41 u (p + 1) s := h1.simk sep_shut b2
  exact (hs.simk hk2 (Nat.zero_le _)).1 _ _ rfl (Lx.shuts (by omega) b2 hk)
theorem tk_of {t : Tk} {k v q : Nat} {x : ByteArray} (h : (match t with | .word k' y v' q' => k' == k && y.toList == x.toList && v' == v && q' == q | _ => false) = true) : t = .word k x v q := by
  split at h
  · simp only [Bool.and_eq_true, beq_iff_eq] at h
    obtain ⟨⟨⟨h1, h2⟩, h3⟩, h4⟩ := h
    rw [h1, toList_inj h2, h3, h4]
  · cases h
theorem tk_and : tok kAnd 0 = .word 2 kAnd 0 kAnd.size := tk_of (by decide +kernel)
theorem tk_or : tok kOr 0 = .word 2 kOr 0 kOr.size := tk_of (by decide +kernel)
theorem tk_to : tok kTo 0 = .word 2 kTo 0 kTo.size := tk_of (by decide +kernel)
theorem tk_iff : tok kIff 0 = .word 2 kIff 0 kIff.size := tk_of (by decide +kernel)
theorem tk_not : tok kNot 0 = .word 2 kNot 0 kNot.size := tk_of (by decide +kernel)
theorem tk_ex : tok kEx 0 = .word 2 kEx 0 kEx.size := tk_of (by decide +kernel)
theorem tk_all : tok kAll 0 = .word 2 kAll 0 kAll.size := tk_of (by decide +kernel)
theorem tk_comma : tok kComma 0 = .word 2 kComma 0 kComma.size := tk_of (by decide +kernel)
theorem tk_dot : tok kDot 0 = .word 2 kDot 0 kDot.size := tk_of (by decide +kernel)
abbrev kX : ByteArray := ⟨#[120]⟩
abbrev kY : ByteArray := ⟨#[121]⟩
abbrev kZ : ByteArray := ⟨#[122]⟩
theorem tk_x : tok kX 0 = .word 0 kX 0 kX.size := tk_of (by decide +kernel)
theorem tk_y : tok kY 0 = .word 0 kY 0 kY.size := tk_of (by decide +kernel)
theorem tk_z : tok kZ 0 = .word 0 kZ 0 kZ.size := tk_of (by decide +kernel)
/- a literal's parts -/
theorem AtT.cut {u L x : ByteArray} {d i : Nat} (h : AtT u d L) (hi : i + x.size ≤ L.size) (hx : ∀ j, j < x.size → bt L (i + j) = bt x j) : AtT u (d + i) x :=
  ⟨by have := h.size; omega, fun j hj => by rw [Nat.add_assoc, h.byte _ (by omega)]; exact hx j hj⟩
theorem AtT.bt {u L : ByteArray} {d i : Nat} (h : AtT u d L) (hi : i < L.size) : Gl.bt u (d + i) = Gl.bt L i := h.byte i hi
/-- what is between two brackets: a blank, a word, a blank; or the word alone -/
theorem Lx.joint {u x : ByteArray} {p : Nat} {ws : List Wd} {g : Option (Nat × Nat)} (hx : AtT u p x) (h0 : 0 < x.size) (ht : tok x 0 = .word 2 x 0 x.size) (hb : Gl.bt u (p + x.size) = 40 ∨ Gl.bt u (p + x.size) = 32) (hk : Lx u (p + x.size) ws g) : Lx u p (⟨2, x, 0, p⟩ :: ws) g := by
  rcases hb with hb | hb
  · exact Lx.wordk (hx.simk sep_open hb) h0 ht hk
  · exact Lx.wordk (hx.simk sep_blank hb) h0 ht hk
/- formulas: what stands where -/
theorem isS_at {pre post : List Wd} {w : Wd} (h : w.kind = 2) : IsS (pre ++ w :: post) pre.length w.text := by
  have := isS_right (l := pre) (r := w :: post) (i := 0) (x := w.text)
  exact this.2 (isS_head.2 ⟨h, rfl⟩)
/-- two parts in brackets with a joint of level n between -/
theorem two_whole {n : Nat} (hn : n < 4) {a b : List Wd} {f g : Fm} {wo wc wj wo' wc' : Wd} {k k' : Nat} (ho : wo.kind = 2 ∧ wo.text = kOpen) (hc : wc.kind = 2 ∧ wc.text = kShut) (hj : wj.kind = 2 ∧ wj.text = sgOf n) (ho' : wo'.kind = 2 ∧ wo'.text = kOpen) (hc' : wc'.kind = 2 ∧ wc'.text = kShut) (ha : Whole a f) (hb : Whole b g) :
    Whole (wo :: (a.map (Wd.move k) ++ wc :: wj :: wo' :: (b.map (Wd.move k') ++ wc' :: []))) (fPair (opOf n) f g) := by
  have e1 : (wo :: (a.map (Wd.move k) ++ wc :: wj :: wo' :: (b.map (Wd.move k') ++ wc' :: []))).length = a.length + 3 + (b.length + 2) := by simp; omega
  have u1 := un_br (pre := []) (post := wj :: wo' :: (b.map (Wd.move k') ++ wc' :: [])) (k := k) ho hc ha
  have u2 := un_br (pre := wo :: (a.map (Wd.move k) ++ [wc, wj])) (post := []) (k := k') ho' hc' hb
  have e2 : (wo :: (a.map (Wd.move k) ++ [wc, wj])).length = a.length + 3 := by simp
  have e3 : wo :: (a.map (Wd.move k) ++ [wc, wj]) ++ wo' :: (b.map (Wd.move k') ++ wc' :: []) = wo :: (a.map (Wd.move k) ++ wc :: wj :: wo' :: (b.map (Wd.move k') ++ wc' :: [])) := by simp
  have sj : IsS (wo :: (a.map (Wd.move k) ++ wc :: wj :: wo' :: (b.map (Wd.move k') ++ wc' :: []))) (a.length + 2) (sgOf n) := by
    have := isS_at (pre := wo :: (a.map (Wd.move k) ++ [wc])) (post := wo' :: (b.map (Wd.move k') ++ wc' :: [])) hj.1
    rw [hj.2] at this
    have e4 : (wo :: (a.map (Wd.move k) ++ [wc])).length = a.length + 2 := by simp
    have e5 : wo :: (a.map (Wd.move k) ++ [wc]) ++ wj :: wo' :: (b.map (Wd.move k') ++ wc' :: []) = wo :: (a.map (Wd.move k) ++ wc :: wj :: wo' :: (b.map (Wd.move k') ++ wc' :: [])) := by simp
    rwa [e4, e5] at this
  rw [e3, e2] at u2
  simp only [List.nil_append, List.length_nil, Nat.zero_add] at u1
  unfold Whole
  rw [e1]
  generalize wo :: (a.map (Wd.move k) ++ wc :: wj :: wo' :: (b.map (Wd.move k') ++ wc' :: [])) = W at u1 u2 sj e1
  have l1 : PF W (.lev (n + 1)) 0 (.ok (.f f) (a.length + 2)) := lev_un (by omega) u1 (noj_above hn sj)
  have l2 : PF W (.lev (n + 1)) (a.length + 2 + 1) (.ok (.f g) (a.length + 3 + (b.length + 2))) := lev_un (by omega) u2 (noj_end (by omega))
  have l3 := lev_two hn l1 sj l2 (by intro h; have := h.lt; omega)
  exact lev_up (Nat.zero_le _) (by omega) l3 (noj_end (by omega))
end Go.Proofs.YtncgmnijgdfenaaGreatDoor.Gl
/- Texts as rows of parts; the words of texts in brackets: plain mathematics. -/
namespace Go.Proofs.YtncgmnijgdfenaaGreatDoor.Gl
set_option linter.unusedVariables false
set_option linter.unusedSimpArgs false

/-- the parts stand in u one behind the other, from d to e -/
def Row (u : ByteArray) : Nat → List ByteArray → Nat → Prop
  | d, [], e => d = e
  | d, x :: l, e => AtT u d x ∧ Row u (d + x.size) l e
theorem Row.self (x : ByteArray) : Row x 0 [x] x.size := ⟨AtT.self x, by show 0 + x.size = x.size; omega⟩
theorem Row.left {A B : ByteArray} : ∀ {l : List ByteArray} {d e : Nat}, Row A d l e → Row (A ++ B) d l e := by
  intro l
  induction l with
  | nil => intro d e h; exact h
  | cons x l ih => intro d e h; exact ⟨h.1.left, ih h.2⟩
theorem Row.right {A B : ByteArray} : ∀ {l : List ByteArray} {d e : Nat}, Row B d l e → Row (A ++ B) (A.size + d) l (A.size + e) := by
  intro l
  induction l with
  | nil => intro d e h; have : d = e := h; show A.size + d = A.size + e; omega
  | cons x l ih => intro d e h; refine ⟨h.1.right, ?_⟩; rw [Nat.add_assoc]; exact ih h.2
theorem Row.join {u : ByteArray} : ∀ {l : List ByteArray} {d e : Nat} {m : List ByteArray} {f : Nat}, Row u d l e → Row u e m f → Row u d (l ++ m) f := by
  intro l
  induction l with
  | nil => intro d e m f h k; have : d = e := h; rw [this]; exact k
  | cons x l ih => intro d e m f h k; exact ⟨h.1, ih h.2 k⟩
theorem Row.app {A B : ByteArray} {l m : List ByteArray} (h : Row A 0 l A.size) (k : Row B 0 m B.size) : Row (A ++ B) 0 (l ++ m) (A ++ B).size := by
  have h2 := k.right (A := A)
  rw [Nat.add_zero] at h2
  rw [ByteArray.size_append]
  exact h.left.join h2
theorem Row.of_eq {A B : ByteArray} {l : List ByteArray} (e : A = B) (h : Row B 0 l B.size) : Row A 0 l A.size := e ▸ h
theorem Row.lt {u : ByteArray} {d e : Nat} {x : ByteArray} {l : List ByteArray} (h : Row u d (x :: l) e) (hx : 0 < x.size) : Gl.bt u d = Gl.bt x 0 ∧ d < u.size := by
  have := h.1.byte 0 hx
  rw [Nat.add_zero] at this
  exact ⟨this, by have := h.1.size; omega⟩
theorem Row.done {u : ByteArray} {d : Nat} (h : Row u d [] u.size) : Lx u d [] none := .done (by have : d = u.size := h; omega)
theorem Row.blank {u : ByteArray} {d e : Nat} {l : List ByteArray} {ws : List Wd} {g : Option (Nat × Nat)} (h : Row u d (blk :: l) e) (k : ∀ d', Row u d' l e → Lx u d' ws g) : Lx u d ws g := by
  obtain ⟨h1, h2⟩ := h.lt (by decide)
  exact Lx.blanks h2 h1 (k _ h.2)
/-- the words of a row of parts: what each part gives -/
inductive Pt where
  | b
  | w (k : Nat) (x : ByteArray)
  | br (s : ByteArray) (a : List Wd)
def Pt.parts : Pt → List ByteArray
  | .b => [blk]
  | .w _ x => [x]
  | .br s _ => [kOpen, s, kShut]
def Pt.words (d : Nat) : Pt → List Wd
  | .b => []
  | .w k x => [⟨k, x, 0, d⟩]
  | .br s a => ⟨2, kOpen, 0, d⟩ :: (a.map (Wd.move (d + 1)) ++ [⟨2, kShut, 0, d + 1 + s.size⟩])
def Pt.len : Pt → Nat
  | .b => 1
  | .w _ x => x.size
  | .br s _ => 1 + s.size + 1
def wordsOf (d : Nat) : List Pt → List Wd
  | [] => []
  | p :: l => p.words d ++ wordsOf (d + p.len) l
/-- how a part begins -/
def Pt.head : Pt → Nat
  | .b => 32
  | .w _ x => Gl.bt x 0
  | .br _ _ => 40
/-- each part is right: a word ends by what follows -/
def Rt : List Pt → Prop
  | [] => True
  | .b :: l => Rt l
  | .w k x :: l => 0 < x.size ∧ tok x 0 = .word k x 0 x.size ∧ (∃ p m, l = p :: m ∧ Sep p.head ∧ (∀ y z, p = .w y z → 0 < z.size)) ∧ Rt l
  | .br s a :: l => Lx s 0 a none ∧ Rt l
theorem row_words {u : ByteArray} : ∀ {l : List Pt} {d : Nat}, Rt l → Row u d (l.flatMap Pt.parts) u.size → Lx u d (wordsOf d l) none := by
  intro l
  induction l with
  | nil => intro d _ h; exact Row.done h
  | cons p l ih =>
    intro d hr h
    cases p with
    | b =>
      have h' : Row u d (blk :: l.flatMap Pt.parts) u.size := h
      obtain ⟨h1, h2⟩ := h'.lt (by decide)
      exact Lx.blanks h2 h1 (ih hr h'.2)
    | w k x =>
      obtain ⟨h0, ht, ⟨p, m, rfl, hs, hp⟩, hr'⟩ := hr
      have h' : Row u d (x :: (p :: m).flatMap Pt.parts) u.size := h
      have hn : Gl.bt u (d + x.size) = p.head := by
        cases p with
        | b => exact (Row.lt (l := m.flatMap Pt.parts) (x := blk) h'.2 (by decide)).1
        | w y z => exact (Row.lt (l := m.flatMap Pt.parts) (x := z) h'.2 (hp y z rfl)).1
        | br s a => exact (Row.lt (l := s :: kShut :: m.flatMap Pt.parts) (x := kOpen) h'.2 (by decide)).1
      exact Lx.wordk (h'.1.simk hs hn) h0 ht (ih hr' h'.2)
    | br s a =>
      obtain ⟨hs, hr'⟩ := hr
      have h' : Row u d (kOpen :: s :: kShut :: l.flatMap Pt.parts) u.size := h
      have z1 : kOpen.size = 1 := rfl
      have z2 : kShut.size = 1 := rfl
      have hk := ih (d := d + (1 + s.size + 1)) hr' (by have := h'.2.2.2; rw [z1, z2] at this; rw [show d + (1 + s.size + 1) = d + 1 + s.size + 1 by omega]; exact this)
      have a1 := h'.2.1
      have a2 := h'.2.2.1
      rw [z1] at a1 a2
      rw [show d + (1 + s.size + 1) = d + 1 + s.size + 1 by omega] at hk
      have := Lx.brk h'.1 a1 a2 hs hk
      have e : wordsOf d (.br s a :: l) = ⟨2, kOpen, 0, d⟩ :: (a.map (Wd.move (d + 1)) ++ ⟨2, kShut, 0, d + 1 + s.size⟩ :: wordsOf (d + 1 + s.size + 1) l) := by
        show (Pt.br s a).words d ++ wordsOf (d + (1 + s.size + 1)) l = _
        rw [show d + (1 + s.size + 1) = d + 1 + s.size + 1 by omega]
        simp [Pt.words]
      rw [e]
      exact this
end Go.Proofs.YtncgmnijgdfenaaGreatDoor.Gl
/- Texts as rows of pieces, whose words stand tight where their signs allow it: plain mathematics. -/
namespace Go.Proofs.YtncgmnijgdfenaaGreatDoor.Gl
set_option linter.unusedVariables false
set_option linter.unusedSimpArgs false

def hdP : List Pc → Option Nat
  | [] => none
  | p :: _ => some (bt p.txt 0)
def Pc.words (d : Nat) : Pc → List Wd
  | .b => []
  | .w k _ t v => [⟨k, t, v, d⟩]
  | .s x => [⟨2, x, 0, d⟩]
def wdsP (d : Nat) : List Pc → List Wd
  | [] => []
  | p :: l => p.words d ++ wdsP (d + p.txt.size) l
abbrev lones : List ByteArray := [kOpen, kShut, kSq, kQs, kDot, kMinus]
def Pc.ok (n : Option Nat) : Pc → Prop
  | .b => True
  | .w k x t v => 0 < x.size ∧ tok x 0 = .word k t v x.size ∧ ∀ c, n = some c → Sep c
  | .s x => x ∈ lones ∧ (x = kMinus → n ≠ some 62)
def RtP : List Pc → Prop
  | [] => True
  | p :: l => p.ok (hdP l) ∧ RtP l
theorem lones_size : ∀ x ∈ lones, x.size = 1 := by decide
theorem Pc.pos {n : Option Nat} {p : Pc} (h : p.ok n) : 0 < p.txt.size := by
  cases p with
  | b => decide
  | w k x t v => exact h.1
  | s x => have := lones_size x h.1; show 0 < x.size; omega
theorem lone_signs : ∀ y ∈ lones, ∀ x ∈ allSigns, 0 < x.size ∧ (bt x 0 = bt y 0 → x = y ∨ (y = kMinus ∧ x.size = 2 ∧ bt x 1 = 62)) := by decide +kernel
theorem lone_byte : ∀ y ∈ lones, bt y 0 < 128 ∧ y ≠ emp ∧ sgn y 0 = y ∧ blB ((bt y 0 : Nat) : Int) = false ∧ stB ((bt y 0 : Nat) : Int) = false ∧ isDig (bt y 0) = false ∧ plB ((bt y 0 : Nat) : Int) = emp := by decide +kernel
theorem sgn_sole {u y : ByteArray} {p : Nat} (hy : y ∈ lones) (h : p < u.size) (h1 : bt u p = bt y 0) (hm : y = kMinus → p + 1 < u.size → bt u (p + 1) ≠ 62) : sgn u p = sgn y 0 := by
  refine longest_congr _ _ (fun x hx => ?_)
  obtain ⟨hz, ha⟩ := lone_signs y hy x hx
  have hy1 := lones_size y hy
  rw [Bool.eq_iff_iff]
  constructor
  · intro hf
    have h0 := fits_first hf hz
    rcases ha (by omega) with rfl | ⟨e, e2, e3⟩
    · exact (fits_iff _ _ _).2 ⟨by omega, fun j hj => by rw [Nat.zero_add]⟩
    · obtain ⟨f1, f2⟩ := (fits_iff _ _ _).1 hf
      exact absurd ((f2 1 (by omega)).trans e3) (hm e (by omega))
  · intro hf
    have h0 := fits_first hf hz
    rcases ha (by omega) with rfl | ⟨e, e2, e3⟩
    · refine (fits_iff _ _ _).2 ⟨by omega, fun j hj => ?_⟩
      obtain rfl : j = 0 := by omega
      rw [Nat.add_zero]
      exact h1
    · have := ((fits_iff _ _ _).1 hf).1
      omega
theorem tok_sole {u y : ByteArray} {p : Nat} (hy : y ∈ lones) (h : p < u.size) (h1 : bt u p = bt y 0) (hm : y = kMinus → p + 1 < u.size → bt u (p + 1) ≠ 62) : tok u p = .word 2 y 0 (p + 1) := by
  obtain ⟨hb, hne, hsg, e1, e2, e3, e4⟩ := lone_byte y hy
  have hr : rdS u p = (bt y 0, 1, true) := rd_sep hb h1
  have hs := (sgn_sole hy h h1 hm).trans hsg
  have hz := lones_size y hy
  unfold tok
  rw [hr]
  dsimp only
  rw [e1, if_neg (by decide), if_neg (by decide), e2, if_neg (by decide), e3, if_neg (by decide), e4, if_neg (by simp), hs, if_neg hne, hz]
theorem hd_bt {u : ByteArray} {d c : Nat} {l : List Pc} (hr : RtP l) (h : Row u d (l.map Pc.txt) u.size) (hc : hdP l = some c) : bt u d = c ∧ d < u.size := by
  cases l with
  | nil => cases hc
  | cons p l =>
    have h' : Row u d (p.txt :: l.map Pc.txt) u.size := h
    cases hc
    exact h'.lt (Pc.pos hr.1)
theorem hd_end {u : ByteArray} {d : Nat} {l : List Pc} (h : Row u d (l.map Pc.txt) u.size) (hc : hdP l = none) : d = u.size := by
  cases l with
  | nil => exact h
  | cons p l => cases hc
/-- the words of a row of pieces -/
theorem pc_words {u : ByteArray} : ∀ {l : List Pc} {d : Nat}, RtP l → Row u d (l.map Pc.txt) u.size → Lx u d (wdsP d l) none := by
  intro l
  induction l with
  | nil => intro d _ h; exact Row.done h
  | cons p l ih =>
    intro d hr h
    have h' : Row u d (p.txt :: l.map Pc.txt) u.size := h
    have hk := ih hr.2 h'.2
    have hlt := h'.lt (Pc.pos hr.1)
    cases p with
    | b => exact Lx.blanks hlt.2 hlt.1 hk
    | w k x t v =>
      obtain ⟨⟨h0, ht, hsep⟩, hr'⟩ := hr
      have hat : AtT u d x := h'.1
      refine Lx.wordk (c := (hdP l).getD 32) (x := x) ?_ h0 ht hk
      cases hq : hdP l with
      | none => exact ⟨sep_blank, hat.size, hat.byte, .inl (hd_end h'.2 hq)⟩
      | some c => exact ⟨hsep c hq, hat.size, hat.byte, .inr (hd_bt hr' h'.2 hq).1⟩
    | s x =>
      obtain ⟨⟨hx, hm⟩, hr'⟩ := hr
      have hz := lones_size x hx
      have hk' : Lx u (d + x.size) (wdsP (d + x.size) l) none := hk
      have e : wdsP d (.s x :: l) = ⟨2, x, 0, d⟩ :: wdsP (d + x.size) l := rfl
      rw [e]
      rw [hz] at hk' ⊢
      refine .word hlt.2 (tok_sole hx hlt.2 hlt.1 (fun e1 e2 e3 => ?_)) hk'
      have h2 : Row u (d + 1) (l.map Pc.txt) u.size := by have := h'.2; rwa [show (Pc.s x).txt.size = 1 from hz] at this
      cases hq : hdP l with
      | none => have := hd_end h2 hq; omega
      | some c => have := (hd_bt hr' h2 hq).1; exact hm e1 (by rw [hq]; congr 1; omega)
theorem row_cat : ∀ l : List Pc, Row (catP l) 0 (l.map Pc.txt) (catP l).size := by
  intro l
  induction l with
  | nil => rfl
  | cons p l ih => exact Row.app (l := [p.txt]) (Row.self p.txt) ih
/-- the text of right pieces has their words -/
theorem cat_words {l : List Pc} (h : RtP l) : Lx (catP l) 0 (wdsP 0 l) none := pc_words h (row_cat l)
/- what each piece says, wherever it stands -/
def Pc.core : Pc → List (Nat × ByteArray × Nat)
  | .b => []
  | .w k _ t v => [(k, t, v)]
  | .s x => [(2, x, 0)]
def corP (l : List Pc) : List (Nat × ByteArray × Nat) := l.flatMap Pc.core
theorem cor_app (l m : List Pc) : corP (l ++ m) = corP l ++ corP m := by unfold corP; rw [List.flatMap_append]
theorem wds_core : ∀ (l : List Pc) (d : Nat), (wdsP d l).map Wd.core = corP l := by
  intro l
  induction l with
  | nil => intro d; rfl
  | cons p l ih =>
    intro d
    show (p.words d ++ wdsP (d + p.txt.size) l).map Wd.core = p.core ++ corP l
    rw [List.map_append, ih]
    congr 1
    cases p <;> rfl
/-- these stand in W from p on -/
def Std (W : List Wd) (p : Nat) : List (Nat × ByteArray × Nat) → Prop
  | [] => True
  | c :: l => (∃ w, W[p]? = some w ∧ w.core = c) ∧ Std W (p + 1) l
theorem std_app {W : List Wd} : ∀ {l m : List (Nat × ByteArray × Nat)} {p : Nat}, Std W p (l ++ m) ↔ Std W p l ∧ Std W (p + l.length) m := by
  intro l
  induction l with
  | nil => intro m p; simp [Std]
  | cons c l ih => intro m p; simp only [List.cons_append, Std, ih, List.length_cons, and_assoc]; rw [show p + 1 + l.length = p + (l.length + 1) by omega]
theorem std_all (W : List Wd) : Std W 0 (W.map Wd.core) := by
  have key : ∀ (l pre : List Wd), Std (pre ++ l) pre.length (l.map Wd.core) := by
    intro l
    induction l with
    | nil => intro pre; trivial
    | cons w l ih =>
      intro pre
      refine ⟨⟨w, by simp, rfl⟩, ?_⟩
      have := ih (pre ++ [w])
      simpa using this
  exact key W []
theorem Std.s {W : List Wd} {p : Nat} {x : ByteArray} {v : Nat} {l : List (Nat × ByteArray × Nat)} (h : Std W p ((2, x, v) :: l)) : IsS W p x := by
  obtain ⟨⟨w, e, hc⟩, _⟩ := h
  exact ⟨w, e, congrArg (·.1) hc, congrArg (·.2.1) hc⟩
theorem Std.n {W : List Wd} {p : Nat} {x : ByteArray} {v : Nat} {l : List (Nat × ByteArray × Nat)} (h : Std W p ((0, x, v) :: l)) : IsN W p x := by
  obtain ⟨⟨w, e, hc⟩, _⟩ := h
  exact ⟨w, e, congrArg (·.1) hc, congrArg (·.2.1) hc⟩
theorem Std.d {W : List Wd} {p : Nat} {x : ByteArray} {v : Nat} {l : List (Nat × ByteArray × Nat)} (h : Std W p ((1, x, v) :: l)) : IsD W p v := by
  obtain ⟨⟨w, e, hc⟩, _⟩ := h
  exact ⟨w, e, congrArg (·.1) hc, congrArg (·.2.2) hc⟩
end Go.Proofs.YtncgmnijgdfenaaGreatDoor.Gl
