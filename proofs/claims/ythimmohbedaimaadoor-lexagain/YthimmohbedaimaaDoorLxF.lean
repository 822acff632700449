/- Words of a text: two texts joined by a blank; words written down and read again: plain mathematics. -/
import Derived.Test.YthimmohbedaimaaDoorLxE
import Derived.Test.YthimmohbedaimaaDoorGlF
namespace Go.Proofs.YthimmohbedaimaaDoor.Gl
set_option linter.unusedVariables false

abbrev blk : ByteArray := ⟨#[32]⟩
theorem bt_app_left (s t : ByteArray) (k : Nat) (h : k < s.size) : bt (s ++ t) k = bt s k := by
  rw [bt_of _ k (by rw [ByteArray.size_append]; omega), bt_of s k h, ByteArray.getElem_append_left h]
theorem bt_app_right (s t : ByteArray) (k : Nat) (h : k < t.size) : bt (s ++ t) (s.size + k) = bt t k := by
  rw [bt_of _ _ (by rw [ByteArray.size_append]; omega), bt_of t k h, ByteArray.getElem_append_right (by omega)]
  congr 2
  omega
theorem sim_left (s t : ByteArray) : Sim (s ++ blk ++ t) 0 s where
  size := by rw [ByteArray.size_append, ByteArray.size_append]; omega
  byte := fun j hj => by rw [Nat.zero_add, bt_app_left _ t j (by rw [ByteArray.size_append]; omega), bt_app_left s blk j hj]
  stop := .inr (by
    have h1 : s.size < (s ++ blk).size := by rw [ByteArray.size_append]; show s.size < s.size + 1; omega
    have := bt_app_right s blk 0 (by decide)
    rw [Nat.add_zero] at this
    rw [Nat.zero_add, bt_app_left _ t s.size h1, this]
    rfl)
theorem sim_right (s t : ByteArray) : Sim (s ++ blk ++ t) (s.size + 1) t where
  size := by rw [ByteArray.size_append, ByteArray.size_append]; exact Nat.le_refl _
  byte := fun j hj => by
    have := bt_app_right (s ++ blk) t j hj
    rwa [ByteArray.size_append] at this
  stop := .inl (by rw [ByteArray.size_append, ByteArray.size_append]; rfl)
theorem move_zero (a : List Wd) : a.map (Wd.move 0) = a := by
  have : Wd.move 0 = id := by funext w; simp [Wd.move]
  rw [this, List.map_id]
/-- a fault in the first one stays -/
theorem join_bad {s t : ByteArray} {a : List Wd} {c e : Nat} (h : Lx s 0 a (some (c, e))) : Lx (s ++ blk ++ t) 0 a (some (c, e)) := by
  have := (h.sim (sim_left s t) (Nat.zero_le _)).2 c e rfl
  rwa [move_zero, Nat.zero_add, Nat.zero_add] at this
/-- two texts with a blank between have the words of both -/
theorem join_lx {s t : ByteArray} {a b : List Wd} {g : Option (Nat × Nat)} (h : Lx s 0 a none) (k : Lx t 0 b g) :
    Lx (s ++ blk ++ t) 0 (a ++ b.map (Wd.move (s.size + 1))) (g.map fun x => (x.1, s.size + 1 + x.2)) := by
  have hz : (s ++ blk ++ t).size = s.size + 1 + t.size := by rw [ByteArray.size_append, ByteArray.size_append]; rfl
  have hr : Lx (s ++ blk ++ t) (s.size + 1) (b.map (Wd.move (s.size + 1))) (g.map fun x => (x.1, s.size + 1 + x.2)) := by
    have hs := k.sim (sim_right s t) (Nat.zero_le _)
    cases g with
    | none =>
      have := hs.1 [] none rfl (.done (by omega))
      rwa [List.append_nil] at this
    | some x =>
      obtain ⟨c, e⟩ := x
      exact hs.2 c e rfl
  have hst := (sim_left s t).stop
  rw [Nat.zero_add] at hst
  have h32 : bt (s ++ blk ++ t) s.size = 32 := hst.resolve_left (by omega)
  have hm : Lx (s ++ blk ++ t) (0 + s.size) (b.map (Wd.move (s.size + 1))) (g.map fun x => (x.1, s.size + 1 + x.2)) := by
    rw [Nat.zero_add]
    refine .blank (by omega) ?_ hr
    unfold tok
    rw [rd_blank h32]
    rfl
  have := (h.sim (sim_left s t) (Nat.zero_le _)).1 _ _ rfl hm
  rwa [move_zero, Nat.zero_add] at this
/- numbers written down -/
def decL (n : Nat) : List UInt8 := if h : n < 10 then [UInt8.ofNat (48 + n)] else decL (n / 10) ++ [UInt8.ofNat (48 + n % 10)]
termination_by n
decreasing_by omega
def dec (n : Nat) : ByteArray := ⟨(decL n).toArray⟩
theorem bt_list (l : List UInt8) (k : Nat) (h : k < l.length) : bt ⟨l.toArray⟩ k = l[k].toNat := by
  rw [bt_of _ k (by simpa [ByteArray.size] using h)]
  rfl
theorem dec_size (n : Nat) : (dec n).size = (decL n).length := by simp [dec, ByteArray.size]
theorem u8_of {n : Nat} (h : n < 256) : (UInt8.ofNat n).toNat = n := by rw [UInt8.toNat_ofNat']; omega
theorem dec_lt {n : Nat} (h : n < 10) : decL n = [UInt8.ofNat (48 + n)] := by rw [decL, dif_pos h]
theorem dec_ge {n : Nat} (h : ¬ n < 10) : decL n = decL (n / 10) ++ [UInt8.ofNat (48 + n % 10)] := by rw [decL, dif_neg h]
theorem dec_all (n : Nat) : 0 < (decL n).length ∧ (∀ c ∈ decL n, 48 ≤ c.toNat ∧ c.toNat ≤ 57) ∧ valF (dec n) 0 (decL n).length = n := by
  induction n using Nat.strongRecOn with
  | _ n ih =>
    by_cases h : n < 10
    · have hd : dec n = ⟨#[UInt8.ofNat (48 + n)]⟩ := by unfold dec; rw [dec_lt h]
      rw [hd, dec_lt h]
      refine ⟨by simp, fun c hc => ?_, ?_⟩
      · rw [List.mem_singleton] at hc
        subst hc
        rw [u8_of (by omega)]; omega
      · have := bt_list [UInt8.ofNat (48 + n)] 0 (by simp)
        show 10 * 0 + (bt ⟨[UInt8.ofNat (48 + n)].toArray⟩ 0 - 48) = n
        rw [this]
        show 10 * 0 + ((UInt8.ofNat (48 + n)).toNat - 48) = n
        rw [u8_of (by omega)]; omega
    · obtain ⟨h1, h2, h3⟩ := ih (n / 10) (by omega)
      have hl : (decL n).length = (decL (n / 10)).length + 1 := by rw [dec_ge h]; simp
      refine ⟨by omega, fun c hc => ?_, ?_⟩
      · rw [dec_ge h, List.mem_append, List.mem_singleton] at hc
        rcases hc with hc | rfl
        · exact h2 c hc
        · rw [u8_of (by omega)]; omega
      · rw [hl, valF]
        have e1 : valF (dec n) 0 (decL (n / 10)).length = valF (dec (n / 10)) 0 (decL (n / 10)).length := valF_congr _ (fun j hj => by
          rw [Nat.zero_add]
          unfold dec
          rw [bt_list _ j (by omega), bt_list _ j hj]
          congr 1
          simp only [dec_ge h]
          rw [List.getElem_append_left hj])
        have e2 : bt (dec n) (0 + (decL (n / 10)).length) = 48 + n % 10 := by
          rw [Nat.zero_add]
          unfold dec
          rw [bt_list _ _ (by omega)]
          simp only [dec_ge h]
          rw [List.getElem_append_right (Nat.le_refl _)]
          simp only [Nat.sub_self, List.getElem_cons_zero]
          exact u8_of (by omega)
        rw [e1, h3, e2]
        omega
/-- all of it, if all its characters are with P -/
theorem run_all {P : Nat → Bool} {s : ByteArray} (h : RunTo P s 0 s.size) : run P s 0 = s.size := run_is h (fun hc => by omega)
theorem run_dig {s : ByteArray} : ∀ (n p : Nat), p + n = s.size → (∀ j, j < n → 48 ≤ bt s (p + j) ∧ bt s (p + j) ≤ 57) → RunTo isDig s p s.size
  | 0, p, h, _ => by
    obtain rfl : p = s.size := by omega
    exact .nil _
  | n + 1, p, h, hb => by
    have h0 := hb 0 (by omega)
    rw [Nat.add_zero] at h0
    have hr := rd_one s p (by omega)
    refine .cons (by omega) (by rw [hr]) (by rw [hr]; exact decide_eq_true h0) ?_
    rw [hr]
    exact run_dig n (p + 1) (by omega) (fun j hj => by have := hb (j + 1) (by omega); rwa [show p + 1 + j = p + (j + 1) by omega])
theorem tok_dec {n : Nat} (hn : n ≤ 9223372036854775807) : tok (dec n) 0 = .word 1 emp n (dec n).size := by
  obtain ⟨h1, h2, h3⟩ := dec_all n
  have hz := dec_size n
  have hb : ∀ j, j < (decL n).length → 48 ≤ bt (dec n) (0 + j) ∧ bt (dec n) (0 + j) ≤ 57 := fun j hj => by
    rw [Nat.zero_add]
    unfold dec
    rw [bt_list _ j hj]
    exact h2 _ (List.getElem_mem hj)
  have hr := run_all (run_dig (s := dec n) (decL n).length 0 (by omega) hb)
  have h0 := hb 0 h1
  rw [Nat.zero_add] at h0
  have hrd := rd_one (dec n) 0 (by omega)
  have hd : isDig (bt (dec n) 0) = true := decide_eq_true h0
  have hst : stB (bt (dec n) 0 : Nat) = false := by
    cases hq : stB (bt (dec n) 0 : Nat) with
    | false => rfl
    | true => exact absurd hd (st_dig hq)
  have hbl : blB (bt (dec n) 0 : Nat) = false := decide_eq_false (by omega)
  unfold tok
  rw [hrd]
  dsimp only
  rw [hbl, hst, hd, hr, if_neg (by decide), if_neg (by decide), if_neg (by decide), if_pos rfl, Nat.sub_zero, hz, h3, if_neg (by omega)]
/- words written down -/
def wrt (w : Wd) : ByteArray := if w.kind = 1 then dec w.num else w.text
def Tk.is2 (t : Tk) (x : ByteArray) : Bool := match t with
  | .word 2 y 0 q => y.toList == x.toList && q == x.size
  | _ => false
theorem Tk.of_is2 {t : Tk} {x : ByteArray} (h : t.is2 x = true) : t = .word 2 x 0 x.size := by
  unfold Tk.is2 at h
  split at h
  · rw [Bool.and_eq_true, eqS_iff, beq_iff_eq] at h
    rw [h.1, h.2]
  · cases h
theorem signs_again : ∀ x ∈ allSigns, (tok x 0).is2 x = true := by decide +kernel
theorem plain_again : ∀ r ∈ marks, (tok (plB r) 0).is2 (plB r) = true := by decide +kernel
theorem extract_all (s : ByteArray) : s.extract 0 s.size = s := ByteArray.extract_zero_size
/-- a word of a text, written down, is read as itself -/
theorem tok_again {s : ByteArray} {p k v q : Nat} {t : ByteArray} (hp : p < s.size) (h : tok s p = .word k t v q) : tok (wrt ⟨k, t, v, p⟩) 0 = .word k t v (wrt ⟨k, t, v, p⟩).size := by
  have hto := tok_to hp h
  rcases tok_cases s p with ⟨_, e⟩ | ⟨hbl, ⟨_, e⟩ | ⟨hok, ⟨hst, hc⟩ | ⟨_, _, ⟨_, e⟩ | ⟨hv, e⟩⟩ | ⟨_, _, hpl, e⟩ | ⟨_, _, _, ⟨_, e⟩ | ⟨hne, e⟩⟩⟩⟩
  · rw [h] at e; cases e
  · rw [h] at e; cases e
  · have hq : q = run reN s p ∧ t = s.extract p (run reN s p) ∧ v = 0 ∧ ((k = 2 ∧ rsB t = true) ∨ (k = 0 ∧ rsB t = false ∧ ¬ 16 < cnt t)) := by
      rcases hc with ⟨h1, e⟩ | ⟨_, _, e⟩ | ⟨h1, h2, e⟩
      · rw [h] at e; cases e; exact ⟨rfl, rfl, rfl, .inl ⟨rfl, h1⟩⟩
      · rw [h] at e; cases e
      · rw [h] at e; cases e; exact ⟨rfl, rfl, rfl, .inr ⟨rfl, h1, h2⟩⟩
    obtain ⟨hq, ht, rfl, hk⟩ := hq
    have hw : wrt ⟨k, t, 0, p⟩ = t := by
      unfold wrt
      rcases hk with ⟨rfl, _⟩ | ⟨rfl, _⟩ <;> rfl
    rw [hw]
    have hz : t.size = q - p := by rw [ht, ← hq]; exact size_win s p q hto.2
    have hrt : RunTo reN t 0 t.size := by
      have hr := run_run reN s p
      rw [← hq] at hr ht
      rw [hz, ht]
      exact hr.win hto.2 0 (q - p) (by omega) (by omega) (Nat.le_refl _)
    have hrun := run_all hrt
    have hst1 : p + (rdS s p).2.1 ≤ q := ((tok_bd hp h).1).step hto.1
    have e0 : rdS t 0 = rdS s p := by
      rw [ht, ← hq]
      exact rd_win s p q 0 hto.2 hst1 hto.1
    unfold tok
    rw [e0, hbl, hok, hst, hrun, extract_all, if_neg (by decide), if_neg (by decide), if_pos rfl]
    rcases hk with ⟨rfl, h1⟩ | ⟨rfl, h1, h2⟩
    · rw [h1, if_pos rfl]
    · rw [h1, if_neg (by decide), if_neg h2]
  · rw [h] at e; cases e
  · rw [h] at e; cases e
    exact tok_dec (Nat.le_of_not_lt hv)
  · rw [h] at e; cases e
    exact Tk.of_is2 (plain_again _ (by
      by_cases hm : ((rdS s p).1 : Int) ∈ marks
      · exact hm
      · exact absurd (pl_none _ (fun m h' e => hm (by rw [← e]; exact h'))) hpl))
  · rw [h] at e; cases e
  · rw [h] at e; cases e
    exact Tk.of_is2 (signs_again _ (sgn_mem hne).2.1)
theorem tok_size {s : ByteArray} {k v q : Nat} {t : ByteArray} (h : tok s 0 = .word k t v q) (hq : q = s.size) (hs : 0 < s.size) : Lx s 0 [⟨k, t, v, 0⟩] none := .word hs h (.done (by omega))
/-- the same words, but for their places -/
def Wd.core (w : Wd) : Nat × ByteArray × Nat := (w.kind, w.text, w.num)
/-- words written down with a blank behind each -/
def txt : List Wd → ByteArray
  | [] => emp
  | w :: ws => wrt w ++ blk ++ txt ws
theorem Lx.writes {s : ByteArray} {p : Nat} {ws : List Wd} {f : Option (Nat × Nat)} (h : Lx s p ws f) : ∀ w ∈ ws, tok (wrt w) 0 = .word w.kind w.text w.num (wrt w).size := by
  induction h with
  | done => intro w hw; cases hw
  | blank _ _ _ ih => exact ih
  | bad => intro w hw; cases hw
  | word a b _ ih =>
    intro w hw
    rcases List.mem_cons.1 hw with rfl | hw
    · exact tok_again a b
    · exact ih w hw
def Tk.isWord : Tk → Bool
  | .word _ _ _ _ => true
  | _ => false
theorem wr_pos {w : Wd} (h : tok (wrt w) 0 = .word w.kind w.text w.num (wrt w).size) : 0 < (wrt w).size := by
  by_cases hc : 0 < (wrt w).size
  · exact hc
  · exfalso
    have h0 : (wrt w) = emp := by
      have := ByteArray.size_eq_zero_iff.1 (show (wrt w).size = 0 by omega)
      exact this
    rw [h0] at h
    have h2 : (tok emp 0).isWord = false := by decide +kernel
    rw [h] at h2
    cases h2
theorem txt_lx (ws : List Wd) (h : ∀ w ∈ ws, tok (wrt w) 0 = .word w.kind w.text w.num (wrt w).size) : ∃ ws', Lx (txt ws) 0 ws' none ∧ ws'.map Wd.core = ws.map Wd.core := by
  induction ws with
  | nil => exact ⟨[], .done (Nat.zero_le _), rfl⟩
  | cons w ws ih =>
    obtain ⟨b, hb, hc⟩ := ih (fun x hx => h x (List.mem_cons_of_mem _ hx))
    have hw := h w (List.mem_cons_self ..)
    have h1 := tok_size hw rfl (wr_pos hw)
    refine ⟨_, join_lx h1 hb, ?_⟩
    rw [List.map_append, List.map_map]
    show [w.core] ++ b.map Wd.core = w.core :: ws.map Wd.core
    rw [hc]
    rfl
end Go.Proofs.YthimmohbedaimaaDoor.Gl
