/- Words of a text: two texts joined by a blank; words written down and read again: plain mathematics. -/
import Derived.Test.YtabfhdmcljdjhaaGreatDoorGlF
import Derived.Test.YtabfhdmcljdjhaaGreatDoorGlMath
import Derived.Test.YtabfhdmcljdjhaaGreatDoorGlE
import Derived.Laws.RangeAny
import Derived.Test.YtabfhdmcljdjhaaGreatDoorLxB
import Derived.Laws.StructEq
namespace Go.Proofs.YtabfhdmcljdjhaaGreatDoor.Gl
set_option linter.unusedVariables false

abbrev blk : ByteArray := ⟨#[32]⟩
theorem bt_app_left (s t : ByteArray) (k : Nat) (h : k < s.size) : bt (s ++ t) k = bt s k := by
  rw [bt_of _ k (by rw [ByteArray.size_append]; omega), bt_of s k h, ByteArray.getElem_append_left h]
theorem bt_app_right (s t : ByteArray) (k : Nat) (h : k < t.size) : bt (s ++ t) (s.size + k) = bt t k := by
  rw [bt_of _ _ (by rw [ByteArray.size_append]; omega), bt_of t k h, ByteArray.getElem_append_right (by omega)]
  congr 2
  omega
theorem sim_left (s t : ByteArray) : Sim (s ++ blk ++ t) 0 s where
  size := by rw [ByteArray.size_append, ByteArray.size_append]; omega
  byte := fun j hj => by rw [Nat.zero_add, bt_app_left _ t j (by rw [ByteArray.size_append]; omega), bt_app_left s blk j hj]
  stop := .inr (by
    have h1 : s.size < (s ++ blk).size := by rw [ByteArray.size_append]; show s.size < s.size + 1; omega
    have := bt_app_right s blk 0 (by decide)
    rw [Nat.add_zero] at this
    rw [Nat.zero_add, bt_app_left _ t s.size h1, this]
    rfl)
theorem sim_right (s t : ByteArray) : Sim (s ++ blk ++ t) (s.size + 1) t where
  size := by rw [ByteArray.size_append, ByteArray.size_append]; exact Nat.le_refl _
  byte := fun j hj => by
    have := bt_app_right (s ++ blk) t j hj
    rwa [ByteArray.size_append] at this
  stop := .inl (by rw [ByteArray.size_append, ByteArray.size_append]; rfl)
theorem move_zero (a : List Wd) : a.map (Wd.move 0) = a := by
  have : Wd.move 0 = id := by funext w; simp [Wd.move]
  rw [this, List.map_id]
/-- a fault in the first one stays -/
theorem join_bad {s t : ByteArray} {a : List Wd} {c e : Nat} (h : Lx s 0 a (some (c, e))) : Lx (s ++ blk ++ t) 0 a (some (c, e)) := by
  have := (h.sim (sim_left s t) (Nat.zero_le _)).2 c e rfl
  rwa [move_zero, Nat.zero_add, Nat.zero_add] at this
/-- two texts with a blank between have the words of both -/
theorem join_lx {s t : ByteArray} {a b : List Wd} {g : Option (Nat × Nat)} (h : Lx s 0 a none) (k : Lx t 0 b g) :
    Lx (s ++ blk ++ t) 0 (a ++ b.map (Wd.move (s.size + 1))) (g.map fun x => (x.1, s.size + 1 + x.2)) := by
  have hz : (s ++ blk ++ t).size = s.size + 1 + t.size := by rw [ByteArray.size_append, ByteArray.size_append]; rfl
  have hr : Lx (s ++ blk ++ t) (s.size + 1) (b.map (Wd.move (s.size + 1))) (g.map fun x => (x.1, s.size + 1 + x.2)) := by
    have hs := k.sim (sim_right s t) (Nat.zero_le _)
    cases g with
    | none =>
      have := hs.1 [] none rfl (.done (by omega))
      rwa [List.append_nil] at this
    | some x =>
      obtain ⟨c, e⟩ := x
      exact hs.2 c e rfl
  have hst := (sim_left s t).stop
  rw [Nat.zero_add] at hst
  have h32 : bt (s ++ blk ++ t) s.size = 32 := hst.resolve_left (by omega)
  have hm : Lx (s ++ blk ++ t) (0 + s.size) (b.map (Wd.move (s.size + 1))) (g.map fun x => (x.1, s.size + 1 + x.2)) := by
    rw [Nat.zero_add]
    refine .blank (by omega) ?_ hr
    unfold tok
    rw [rd_blank h32]
    rfl
  have := (h.sim (sim_left s t) (Nat.zero_le _)).1 _ _ rfl hm
  rwa [move_zero, Nat.zero_add] at this
/- numbers written down -/
def decL (n : Nat) : List UInt8 := if h : n < 10 then [UInt8.ofNat (48 + n)] else decL (n / 10) ++ [UInt8.ofNat (48 + n % 10)]
termination_by n
decreasing_by omega
def dec (n : Nat) : ByteArray := ⟨(decL n).toArray⟩
theorem bt_list (l : List UInt8) (k : Nat) (h : k < l.length) : bt ⟨l.toArray⟩ k = l[k].toNat := by
  rw [bt_of _ k (by simpa [ByteArray.size] using h)]
  rfl
theorem dec_size (n : Nat) : (dec n).size = (decL n).length := by simp [dec, ByteArray.size]
theorem u8_of {n : Nat} (h : n < 256) : (UInt8.ofNat n).toNat = n := by rw [UInt8.toNat_ofNat']; omega
theorem dec_lt {n : Nat} (h : n < 10) : decL n = [UInt8.ofNat (48 + n)] := by rw [decL, dif_pos h]
theorem dec_ge {n : Nat} (h : ¬ n < 10) : decL n = decL (n / 10) ++ [UInt8.ofNat (48 + n % 10)] := by rw [decL, dif_neg h]
theorem dec_all (n : Nat) : 0 < (decL n).length ∧ (∀ c ∈ decL n, 48 ≤ c.toNat ∧ c.toNat ≤ 57) ∧ valF (dec n) 0 (decL n).length = n := by
  induction n using Nat.strongRecOn with
  | _ n ih =>
    by_cases h : n < 10
    · have hd : dec n = ⟨#[UInt8.ofNat (48 + n)]⟩ := by unfold dec; rw [dec_lt h]
      rw [hd, dec_lt h]
      refine ⟨by simp, fun c hc => ?_, ?_⟩
      · rw [List.mem_singleton] at hc
        subst hc
        rw [u8_of (by omega)]; omega
      · have := bt_list [UInt8.ofNat (48 + n)] 0 (by simp)
        show 10 * 0 + (bt ⟨[UInt8.ofNat (48 + n)].toArray⟩ 0 - 48) = n
        rw [this]
        show 10 * 0 + ((UInt8.ofNat (48 + n)).toNat - 48) = n
        rw [u8_of (by omega)]; omega
    · obtain ⟨h1, h2, h3⟩ := ih (n / 10) (by omega)
      have hl : (decL n).length = (decL (n / 10)).length + 1 := by rw [dec_ge h]; simp
      refine ⟨by omega, fun c hc => ?_, ?_⟩
      · rw [dec_ge h, List.mem_append, List.mem_singleton] at hc
        rcases hc with hc | rfl
        · exact h2 c hc
        · rw [u8_of (by omega)]; omega
      · rw [hl, valF]
        have e1 : valF (dec n) 0 (decL (n / 10)).length = valF (dec (n / 10)) 0 (decL (n / 10)).length := valF_congr _ (fun j hj => by
          rw [Nat.zero_add]
          unfold dec
          rw [bt_list _ j (by omega), bt_list _ j hj]
          congr 1
          simp only [dec_ge h]
          rw [List.getElem_append_left hj])
        have e2 : bt (dec n) (0 + (decL (n / 10)).length) = 48 + n % 10 := by
          rw [Nat.zero_add]
          unfold dec
          rw [bt_list _ _ (by omega)]
          simp only [dec_ge h]
          rw [List.getElem_append_right (Nat.le_refl _)]
          simp only [Nat.sub_self, List.getElem_cons_zero]
          exact u8_of (by omega)
        rw [e1, h3, e2]
        omega
/-- all of it, if all its characters are with P -/
theorem run_all {P : Nat → Bool} {s : ByteArray} (h : RunTo P s 0 s.size) : run P s 0 = s.size := run_is h (fun hc => by omega)
theorem run_dig {s : ByteArray} : ∀ (n p : Nat), p + n = s.size → (∀ j, j < n → 48 ≤ bt s (p + j) ∧ bt s (p + j) ≤ 57) → RunTo isDig s p s.size
  | 0, p, h, _ => by
    obtain rfl : p = s.size := by omega
    exact .nil _
  | n + 1, p, h, hb => by
    have h0 := hb 0 (by omega)
    rw [Nat.add_zero] at h0
    have hr := rd_one s p (by omega)
    refine .cons (by omega) (by rw [hr]) (by rw [hr]; exact decide_eq_true h0) ?_
    rw [hr]
    exact run_dig n (p + 1) (by omega) (fun j hj => by have := hb (j + 1) (by omega); rwa [show p + 1 + j = p + (j + 1) by omega])
theorem tok_dec {n : Nat} (hn : n ≤ 9223372036854775807) : tok (dec n) 0 = .word 1 emp n (dec n).size := by
  obtain ⟨h1, h2, h3⟩ := dec_all n
  have hz := dec_size n
  have hb : ∀ j, j < (decL n).length → 48 ≤ bt (dec n) (0 + j) ∧ bt (dec n) (0 + j) ≤ 57 := fun j hj => by
    rw [Nat.zero_add]
    unfold dec
    rw [bt_list _ j hj]
    exact h2 _ (List.getElem_mem hj)
  have hr := run_all (run_dig (s := dec n) (decL n).length 0 (by omega) hb)
  have h0 := hb 0 h1
  rw [Nat.zero_add] at h0
  have hrd := rd_one (dec n) 0 (by omega)
  have hd : isDig (bt (dec n) 0) = true := decide_eq_true h0
  have hst : stB (bt (dec n) 0 : Nat) = false := by
    cases hq : stB (bt (dec n) 0 : Nat) with
    | false => rfl
    | true => exact absurd hd (st_dig hq)
  have hbl : blB (bt (dec n) 0 : Nat) = false := decide_eq_false (by omega)
  unfold tok
  rw [hrd]
  dsimp only
  rw [hbl, hst, hd, hr, if_neg (by decide), if_neg (by decide), if_neg (by decide), if_pos rfl, Nat.sub_zero, hz, h3, if_neg (by omega)]
/- words written down -/
def wrt (w : Wd) : ByteArray := if w.kind = 1 then dec w.num else w.text
def Tk.is2 (t : Tk) (x : ByteArray) : Bool := match t with
  | .word 2 y 0 q => y.toList == x.toList && q == x.size
  | _ => false
theorem Tk.of_is2 {t : Tk} {x : ByteArray} (h : t.is2 x = true) : t = .word 2 x 0 x.size := by
  unfold Tk.is2 at h
  split at h
  · rw [Bool.and_eq_true, eqS_iff, beq_iff_eq] at h
    rw [h.1, h.2]
  · cases h
theorem signs_again : ∀ x ∈ allSigns, (tok x 0).is2 x = true := by decide +kernel
theorem plain_again : ∀ r ∈ marks, (tok (plB r) 0).is2 (plB r) = true := by decide +kernel
theorem extract_all (s : ByteArray) : s.extract 0 s.size = s := ByteArray.extract_zero_size
/-- a word of a text, written down, is read as itself -/
theorem tok_again {s : ByteArray} {p k v q : Nat} {t : ByteArray} (hp : p < s.size) (h : tok s p = .word k t v q) : tok (wrt ⟨k, t, v, p⟩) 0 = .word k t v (wrt ⟨k, t, v, p⟩).size := by
  have hto := tok_to hp h
  rcases tok_cases s p with ⟨_, e⟩ | ⟨hbl, ⟨_, e⟩ | ⟨hok, ⟨hst, hc⟩ | ⟨_, _, ⟨_, e⟩ | ⟨hv, e⟩⟩ | ⟨_, _, hpl, e⟩ | ⟨_, _, _, ⟨_, e⟩ | ⟨hne, e⟩⟩⟩⟩
  · rw [h] at e; cases e
  · rw [h] at e; cases e
  · have hq : q = run reN s p ∧ t = s.extract p (run reN s p) ∧ v = 0 ∧ ((k = 2 ∧ rsB t = true) ∨ (k = 0 ∧ rsB t = false ∧ ¬ 16 < cnt t)) := by
      rcases hc with ⟨h1, e⟩ | ⟨_, _, e⟩ | ⟨h1, h2, e⟩
      · rw [h] at e; cases e; exact ⟨rfl, rfl, rfl, .inl ⟨rfl, h1⟩⟩
      · rw [h] at e; cases e
      · rw [h] at e; cases e; exact ⟨rfl, rfl, rfl, .inr ⟨rfl, h1, h2⟩⟩
    obtain ⟨hq, ht, rfl, hk⟩ := hq
    have hw : wrt ⟨k, t, 0, p⟩ = t := by
      unfold wrt
      rcases hk with ⟨rfl, _⟩ | ⟨rfl, _⟩ <;> rfl
    rw [hw]
    have hz : t.size = q - p := by rw [ht, ← hq]; exact size_win s p q hto.2
    have hrt : RunTo reN t 0 t.size := by
      have hr := run_run reN s p
      rw [← hq] at hr ht
      rw [hz, ht]
      exact hr.win hto.2 0 (q - p) (by omega) (by omega) (Nat.le_refl _)
    have hrun := run_all hrt
    have hst1 : p + (rdS s p).2.1 ≤ q := ((tok_bd hp h).1).step hto.1
    have e0 : rdS t 0 = rdS s p := by
      rw [ht, ← hq]
      exact rd_win s p q 0 hto.2 hst1 hto.1
    unfold tok
    rw [e0, hbl, hok, hst, hrun, extract_all, if_neg (by decide), if_neg (by decide), if_pos rfl]
    rcases hk with ⟨rfl, h1⟩ | ⟨rfl, h1, h2⟩
    · rw [h1, if_pos rfl]
    · rw [h1, if_neg (by decide), if_neg h2]
  · rw [h] at e; cases e
  · rw [h] at e; cases e
    exact tok_dec (Nat.le_of_not_lt hv)
  · rw [h] at e; cases e
    exact Tk.of_is2 (plain_again _ (by
      by_cases hm : ((rdS s p).1 : Int) ∈ marks
      · exact hm
      · exact absurd (pl_none _ (fun m h' e => hm (by rw [← e]; exact h'))) hpl))
  · rw [h] at e; cases e
  · rw [h] at e; cases e
    exact Tk.of_is2 (signs_again _ (sgn_mem hne).2.1)
theorem tok_size {s : ByteArray} {k v q : Nat} {t : ByteArray} (h : tok s 0 = .word k t v q) (hq : q = s.size) (hs : 0 < s.size) : Lx s 0 [⟨k, t, v, 0⟩] none := .word hs h (.done (by omega))
/-- the same words, but for their places -/
def Wd.core (w : Wd) : Nat × ByteArray × Nat := (w.kind, w.text, w.num)
/-- words written down with a blank behind each -/
def txt : List Wd → ByteArray
  | [] => emp
  | w :: ws => wrt w ++ blk ++ txt ws
theorem Lx.writes {s : ByteArray} {p : Nat} {ws : List Wd} {f : Option (Nat × Nat)} (h : Lx s p ws f) : ∀ w ∈ ws, tok (wrt w) 0 = .word w.kind w.text w.num (wrt w).size := by
  induction h with
  | done => intro w hw; cases hw
  | blank _ _ _ ih => exact ih
  | bad => intro w hw; cases hw
  | word a b _ ih =>
    intro w hw
    rcases List.mem_cons.1 hw with rfl | hw
    · exact tok_again a b
    · exact ih w hw
def Tk.isWord : Tk → Bool
  | .word _ _ _ _ => true
  | _ => false
theorem wr_pos {w : Wd} (h : tok (wrt w) 0 = .word w.kind w.text w.num (wrt w).size) : 0 < (wrt w).size := by
  by_cases hc : 0 < (wrt w).size
  · exact hc
  · exfalso
    have h0 : (wrt w) = emp := by
      have := ByteArray.size_eq_zero_iff.1 (show (wrt w).size = 0 by omega)
      exact this
    rw [h0] at h
    have h2 : (tok emp 0).isWord = false := by decide +kernel
    rw [h] at h2
    cases h2
theorem txt_lx (ws : List Wd) (h : ∀ w ∈ ws, tok (wrt w) 0 = .word w.kind w.text w.num (wrt w).size) : ∃ ws', Lx (txt ws) 0 ws' none ∧ ws'.map Wd.core = ws.map Wd.core := by
  induction ws with
  | nil => exact ⟨[], .done (Nat.zero_le _), rfl⟩
  | cons w ws ih =>
    obtain ⟨b, hb, hc⟩ := ih (fun x hx => h x (List.mem_cons_of_mem _ hx))
    have hw := h w (List.mem_cons_self ..)
    have h1 := tok_size hw rfl (wr_pos hw)
    refine ⟨_, join_lx h1 hb, ?_⟩
    rw [List.map_append, List.map_map]
    show [w.core] ++ b.map Wd.core = w.core :: ws.map Wd.core
    rw [hc]
    rfl
end Go.Proofs.YtabfhdmcljdjhaaGreatDoor.Gl
/- The program's characters, Name. -/
namespace Go.Proofs.YtabfhdmcljdjhaaGreatDoor.Gl
open Go.RowKit
set_option linter.unusedVariables false

theorem iter_below (w : World) (s : ByteArray) (p : Nat) : Below w.heap.size w (w.iter s p) := (Below.refl _ _).alloc (Nat.le_refl _) _
theorem next_at (w : World) (s : ByteArray) (p r wd : Nat) (hp : p < s.size) (h1 : (rdS s p).1 = r) (h2 : (rdS s p).2.1 = wd) (ty : TypeId) :
    (Instr.next (.pointer (some ⟨w.heap.size, 0, none⟩)) true ty).run Tryz.prog (w.iter s p) = .ok (.tuple #[.bool true, .int .i64 p, .int .i32 r]) (w.iter s (p + wd)) := by
  subst h1; subst h2
  exact run_next_any w s p ty hp
theorem ok_of_re {s : ByteArray} {p : Nat} (h : reB ((rdS s p).1 : Nat) = true) : (rdS s p).2.2 = true := by
  unfold rdS at h ⊢
  dsimp only at h ⊢
  by_cases hc : (Utf8.decode s p).1 = 65533
  · rw [hc] at h; exact absurd h (by decide)
  · have : ((Utf8.decode s p).1 == 65533) = false := by simpa using hc
    rw [this]; rfl
set_option maxHeartbeats 2000000 in
theorem name_at (s : ByteArray) (b : Bool) (w : World) (hs : s.size ≤ 9223372036854775807) (hb : b = true ↔ IsName s) :
    Calls Tryz.prog 100 #[.string s] w fun e w' => e = .returned (.bool b) ∧ Below w.heap.size w w' := by
  have HB : Hid (b = true ↔ IsName s) := hb
  clear hb
  go_enter Tryz.func100, Tryz.ntmps100
  go_wp2
  go_loopw [3] (fun m wr => ∃ k : Nat, k ≤ 16 ∧ m = .int .i64 k ∧ wr = w.iter s (pos s k) ∧ Hid (Nms s k)) (fun _ wr => s.size - wr.iterPos w.heap.size)
  case atStart => exact ⟨0, by omega, rfl, rfl, fun j hj => absurd hj (by omega)⟩
  case round =>
    obtain ⟨k, hk16, rfl, rfl, hall⟩ := hrel
    obtain ⟨hg1, hg2⟩ := pos_ge s k hall.out.lt
    by_cases hlt : pos s k < s.size
    · obtain ⟨hb1, hb2, hb3⟩ := rd_bd s (pos s k) hlt
      have HS : Hid (pos s (k + 1) = pos s k + (rdS s (pos s k)).2.1) := pos_succ s k
      have HNO : Hid (¬ (reB ((rdS s (pos s k)).1 : Nat) = true ∧ (k = 0 → stB ((rdS s (pos s k)).1 : Nat) = true)) → b = false) := fun h => by
        cases b with
        | false => rfl
        | true => exact absurd (HB.out.1 rfl) (name_no hlt hall.out.lt (fun h' => h h'.2))
      have HYES : Hid (reB ((rdS s (pos s k)).1 : Nat) = true ∧ (k = 0 → stB ((rdS s (pos s k)).1 : Nat) = true) → Nms s (k + 1)) := fun h j hj => by
        rcases Nat.lt_succ_iff_lt_or_eq.1 hj with hj | rfl
        · exact hall.out j hj
        · exact ⟨hlt, ok_of_re h.1, h⟩
      have H16 : Hid (k = 16 → b = false) := fun h => by
        cases b with
        | false => rfl
        | true =>
          obtain ⟨⟨n, hn, _, h2, _⟩, _⟩ := HB.out.1 rfl
          have hkn : k + 1 ≤ n := cnt_lt hn (fun j hj => by
            rcases Nat.lt_succ_iff_lt_or_eq.1 hj with hj | rfl
            · exact hall.out.lt j hj
            · exact hlt)
          omega
      have hnx := next_at w s (pos s k) _ _ hlt rfl rfl
      generalize hp : pos s k = p at *
      clear hp
      generalize hr : (rdS s p).1 = r at *
      generalize hw : (rdS s p).2.1 = wd at *
      clear hr hw
      by_cases h16 : k = 16
      · have HE : Hid (b = false) := H16.out h16
        subst h16
        clear HNO HYES H16
        go_wp2
        go_ret
        exact ⟨retb HE.out.symm, iter_below _ _ _⟩
      · have hk16' : ((k : Int) == 16) = false := by simp; omega
        have hk17 : k + 1 ≤ 16 := by omega
        have RS : ∀ c, reB (r : Nat) = c → Hid (∀ w, Calls Tryz.prog 80 #[.int .i32 (r : Nat)] w fun e w' => e = .returned (.bool c) ∧ w = w') := fun c h w => by rw [← h]; exact rest_at r w
        have SS : ∀ c, stB (r : Nat) = c → Hid (∀ w, Calls Tryz.prog 78 #[.int .i32 (r : Nat)] w fun e w' => e = .returned (.bool c) ∧ w = w') := fun c h w => by rw [← h]; exact start_at r w
        clear h16
        cases hre : reB (r : Nat) with
        | false =>
          have HE : Hid (b = false) := HNO.out (fun h => by have := h.1; rw [hre] at this; cases this)
          have R0 := RS _ hre
          clear SS RS hre HNO HYES H16
          go_wp2_with (go_at_call 80; refine (R0.out _).mono ?_; rintro e w2 ⟨rfl, rfl⟩)
          go_ret
          exact ⟨retb HE.out.symm, iter_below _ _ _⟩
        | true =>
          have R0 := RS _ hre
          rcases Nat.eq_zero_or_pos k with hk | hk
          · subst hk
            cases hst : stB (r : Nat) with
            | false =>
              have HE : Hid (b = false) := HNO.out (fun h => by have := h.2 rfl; rw [hst] at this; cases this)
              have S0 := SS _ hst
              clear SS RS hst hre HNO HYES H16
              go_wp2_with (first
                | (go_at_call 80; refine (R0.out _).mono ?_; rintro e w2 ⟨rfl, rfl⟩)
                | (go_at_call 78; refine (S0.out _).mono ?_; rintro e w2 ⟨rfl, rfl⟩))
              go_ret
              exact ⟨retb HE.out.symm, iter_below _ _ _⟩
            | true =>
              have HY : Hid (Nms s (0 + 1)) := HYES.out ⟨hre, fun _ => hst⟩
              have S0 := SS _ hst
              clear SS RS hst hre HNO HYES H16
              go_wp2_with (first
                | (go_at_call 80; refine (R0.out _).mono ?_; rintro e w2 ⟨rfl, rfl⟩)
                | (go_at_call 78; refine (S0.out _).mono ?_; rintro e w2 ⟨rfl, rfl⟩))
              go_roundw
              case rel => exact ⟨0 + 1, by omega, by go_num, by rw [HS.out], HY⟩
              case measure => simp only [World.iterPos_iter]; omega
          · have hk0 : ((k : Int) == 0) = false := by simp; omega
            have HY : Hid (Nms s (k + 1)) := HYES.out ⟨hre, fun h => by omega⟩
            clear SS RS hre HNO HYES H16
            go_wp2_with (go_at_call 80; refine (R0.out _).mono ?_; rintro e w2 ⟨rfl, rfl⟩)
            go_roundw
            case rel => exact ⟨k + 1, by omega, by go_num, by rw [HS.out], HY⟩
            case measure => simp only [World.iterPos_iter]; omega
    · have HC : Hid (IsCnt s k) := ⟨by omega, hall.out.lt⟩
      have HP : Hid (b = true ↔ 1 ≤ k ∧ rsB s = false) := by
        show _ ↔ _
        rw [HB.out]
        constructor
        · rintro ⟨⟨n, hn, h1, h2, _⟩, h3⟩
          have := cnt_one hn HC.out
          exact ⟨by omega, h3⟩
        · rintro ⟨h1, h3⟩
          exact ⟨⟨k, HC.out, h1, hk16, hall.out⟩, h3⟩
      have hnx := fun ty => run_next_end (P := Tryz.prog) w s (pos s k) ty hlt
      generalize hp : pos s k = p at *
      clear hp
      by_cases hk : 1 ≤ k
      · have RV : ∀ c, rsB s = c → Hid (∀ w, Calls Tryz.prog 99 #[.string s] w fun e w' => e = .returned (.bool c) ∧ w = w') := fun c h w => by rw [← h]; exact reserved_at s w
        cases hrs : rsB s with
        | false =>
          have HE : Hid (b = true) := HP.out.2 ⟨hk, hrs⟩
          have R0 := RV _ hrs
          clear RV hrs
          go_wp2_with (go_at_call 99; refine (R0.out _).mono ?_; rintro e w2 ⟨rfl, rfl⟩)
          go_ret
          exact ⟨retb HE.out.symm, iter_below _ _ _⟩
        | true =>
          have HE : Hid (b = false) := by
            cases b with
            | false => rfl
            | true => have := (HP.out.1 rfl).2; rw [hrs] at this; cases this
          have R0 := RV _ hrs
          clear RV hrs
          go_wp2_with (go_at_call 99; refine (R0.out _).mono ?_; rintro e w2 ⟨rfl, rfl⟩)
          go_ret
          exact ⟨retb HE.out.symm, iter_below _ _ _⟩
      · have HE : Hid (b = false) := by
          cases b with
          | false => rfl
          | true => exact absurd (HP.out.1 rfl).1 hk
        obtain rfl : k = 0 := by omega
        clear hk
        go_wp2
        go_ret
        exact ⟨retb HE.out.symm, iter_below _ _ _⟩
end Go.Proofs.YtabfhdmcljdjhaaGreatDoor.Gl
/- The program's Good, At. -/
namespace Go.Proofs.YtabfhdmcljdjhaaGreatDoor.Gl
open Go.RowKit
set_option linter.unusedVariables false

theorem bool_of_iff {a b : Bool} (h : a = true ↔ b = true) : a = b := Bool.eq_iff_iff.2 h
theorem hp_in (t : ByteArray) (b : Bool) (w : World) (hs : t.size ≤ 9223372036854775807) (h3 : 3 ≤ t.size) (hb : ((t.extract 0 3).toList == [239, 191, 189]) = b) :
    Calls Tryz.prog 95 #[.string t, .string ⟨#[239, 191, 189]⟩] w fun e w' => e = .returned (.bool b) ∧ w = w' := by
  have HE : Hid (((t.extract 0 3).toList == [239, 191, 189]) = b) := hb
  have h3' : (3 : Int) ≤ (t.size : Int) := by omega
  clear hb
  go_enter Tryz.func95, Tryz.ntmps95
  go_wp2
  go_ret
  exact ⟨retb HE.out, rfl⟩
theorem hp_no (t : ByteArray) (w : World) (h3 : t.size < 3) :
    Calls Tryz.prog 95 #[.string t, .string ⟨#[239, 191, 189]⟩] w fun e w' => e = .returned (.bool false) ∧ w = w' := by
  have h3' : decide ((3 : Int) ≤ (t.size : Int)) = false := decide_eq_false (by omega)
  go_enter Tryz.func95, Tryz.ntmps95
  go_wp2
  go_ret
  exact ⟨rfl, rfl⟩
theorem pre_at (s : ByteArray) (p : Nat) (b : Bool) (w : World) (hs : s.size ≤ 9223372036854775807) (hp : p ≤ s.size) (hb : b = true ↔ Fd s p) :
    Calls Tryz.prog 77 #[.string (s.extract p s.size), .string ⟨#[239, 191, 189]⟩] w fun e w' => e = .returned (.bool b) ∧ w = w' := by
  have K : Hid (∀ w, Calls Tryz.prog 95 #[.string (s.extract p s.size), .string ⟨#[239, 191, 189]⟩] w fun e w' => e = .returned (.bool b) ∧ w = w') := fun w => by
    by_cases h3 : 3 ≤ (s.extract p s.size).size
    · exact hp_in _ b w (by rw [ByteArray.size_extract]; omega) h3 (bool_of_iff ((pre3_iff s p hp h3).trans hb.symm))
    · have : b = false := by
        cases b with
        | false => rfl
        | true => exact absurd (hb.1 rfl) (pre3_no s p hp (by omega))
      rw [this]
      exact hp_no _ w (by omega)
  clear hb
  generalize s.extract p s.size = t at *
  go_enter Tryz.func77, Tryz.ntmps77
  go_wp2_with (go_at_call 95; refine (K.out _).mono ?_; rintro e w2 ⟨rfl, rfl⟩)
  go_ret
  exact ⟨rfl, rfl⟩
set_option maxHeartbeats 1000000 in
theorem good_at (s : ByteArray) (g : Nat) (w : World) (hs : s.size ≤ 9223372036854775807) (hg : IsGood s g) :
    Calls Tryz.prog 50 #[.string s] w fun e w' => e = .returned (.int .i64 g) ∧ Below w.heap.size w w' := by
  have HG : Hid (IsGood s g) := hg
  clear hg
  go_enter Tryz.func50, Tryz.ntmps50
  go_wp2
  go_loopw [] (fun wr => ∃ k : Nat, wr = w.iter s (pos s k) ∧ Hid (Oks s k)) (fun wr => s.size - wr.iterPos w.heap.size)
  case atStart => exact ⟨0, rfl, fun j hj => absurd hj (by omega)⟩
  case round =>
    obtain ⟨k, rfl, hall⟩ := hrel
    obtain ⟨hg1, hg2⟩ := pos_ge s k hall.out.lt
    by_cases hlt : pos s k < s.size
    · obtain ⟨hb1, hb2, hb3⟩ := rd_bd s (pos s k) hlt
      have HS : Hid (pos s (k + 1) = pos s k + (rdS s (pos s k)).2.1) := pos_succ s k
      have hnx := next_at w s (pos s k) _ _ hlt rfl rfl
      have HYES : Hid ((rdS s (pos s k)).2.2 = true → Oks s (k + 1)) := fun h j hj => by
        rcases Nat.lt_succ_iff_lt_or_eq.1 hj with hj | rfl
        · exact hall.out j hj
        · exact ⟨hlt, h⟩
      have HNO : Hid ((rdS s (pos s k)).2.2 = false → ((pos s k : Nat) : Int) = (g : Int)) := fun h => by
        have := good_one HG.out ⟨k, rfl, hall.out, .inr ⟨hlt, h⟩⟩
        omega
      have HF : Hid ((rdS s (pos s k)).1 = 65533 → ((rdS s (pos s k)).2.2 = true ↔ Fd s (pos s k))) := rd_fffd s (pos s k) hlt
      have HO : Hid ((rdS s (pos s k)).1 ≠ 65533 → (rdS s (pos s k)).2.2 = true) := rd_ok s (pos s k)
      have PR : Hid (∀ b, (b = true ↔ Fd s (pos s k)) → ∀ w, Calls Tryz.prog 77 #[.string (s.extract (pos s k) s.size), .string ⟨#[239, 191, 189]⟩] w fun e w' => e = .returned (.bool b) ∧ w = w') := fun b hb w => pre_at s (pos s k) b w hs hg2 hb
      generalize hp : pos s k = p at *
      clear hp
      generalize hr : (rdS s p).1 = r at *
      generalize hw : (rdS s p).2.1 = wd at *
      generalize ho : (rdS s p).2.2 = ok at *
      clear hr hw ho
      by_cases h : r = 65533
      · have P0 : Hid (∀ w, Calls Tryz.prog 77 #[.string (s.extract p s.size), .string ⟨#[239, 191, 189]⟩] w fun e w' => e = .returned (.bool ok) ∧ w = w') := PR.out ok (HF.out h)
        subst h
        cases ok with
        | true =>
          have HY : Hid (Oks s (k + 1)) := HYES.out rfl
          clear HYES HNO HF HO PR
          go_wp2_with (go_at_call 77; refine (P0.out _).mono ?_; rintro e w2 ⟨rfl, rfl⟩)
          go_roundw
          case rel => exact ⟨k + 1, by rw [HS.out], HY⟩
          case measure => simp only [World.iterPos_iter]; omega
        | false =>
          have HE : Hid ((p : Int) = (g : Int)) := HNO.out rfl
          clear HYES HNO HF HO PR
          go_wp2_with (go_at_call 77; refine (P0.out _).mono ?_; rintro e w2 ⟨rfl, rfl⟩)
          go_ret
          exact ⟨ret1 HE.out, iter_below _ _ _⟩
      · have HY : Hid (Oks s (k + 1)) := HYES.out (HO.out h)
        have h' : ((r : Int) == 65533) = false := by simp; omega
        clear HYES HNO HF HO PR
        go_wp2
        go_roundw
        case rel => exact ⟨k + 1, by rw [HS.out], HY⟩
        case measure => simp only [World.iterPos_iter]; omega
    · have HE : Hid ((s.size : Int) = (g : Int)) := by
        have := good_one HG.out ⟨k, rfl, hall.out, .inl (by omega)⟩
        show _ = _
        omega
      have hnx := fun ty => run_next_end (P := Tryz.prog) w s (pos s k) ty hlt
      generalize hp : pos s k = p at *
      clear hp
      go_wp2
      go_ret
      exact ⟨ret1 HE.out, iter_below _ _ _⟩
theorem bcell {W w1 : World} (hb : Below W.heap.size W w1) : (∀ b o, b < W.heap.size → w1.cell? ⟨b, o, none⟩ = W.cell? ⟨b, o, none⟩) ∧ (∀ b o, b < W.heap.size → w1.frozen? ⟨b, o, none⟩ = W.frozen? ⟨b, o, none⟩) :=
  ⟨fun b o h => hb.cell (p := ⟨b, o, none⟩) h, fun b o h => hb.frozen (p := ⟨b, o, none⟩) h⟩
end Go.Proofs.YtabfhdmcljdjhaaGreatDoor.Gl
/- The law's fixed; the walks of GlyphChars, GlyphNames. -/
namespace Go.Proofs.YtabfhdmcljdjhaaGreatDoor.Gl
open Go.RowKit
set_option linter.unusedVariables false

theorem bt2 {w w1 w2 : World} (h : Below w.heap.size w w1) (k : Below w1.heap.size w1 w2) : Below w.heap.size w w2 := h.trans (k.mono h.size)
theorem bta {w w1 : World} (h : Below w.heap.size w w1) (o : Obj) : Below w.heap.size w (w1.alloc o) := h.alloc h.size o
theorem fx_cnt : IsCnt ((⟨#[97, 195, 169, 98]⟩ : ByteArray).extract 0 3) 2 := by unfold IsCnt; decide +kernel
theorem fx_yes : IsName ⟨#[206, 177, 226, 130, 129]⟩ := by
  refine ⟨⟨2, by unfold IsCnt; decide +kernel, by omega, by omega, ?_⟩, by decide +kernel⟩
  unfold Nms; decide +kernel
theorem fx_no : ¬ IsName ⟨#[97, 110, 100]⟩ := fun h => absurd h.2 (by decide +kernel)
open Classical in
theorem bool_for (p : Prop) : ∃ b : Bool, b = true ↔ p := ⟨decide p, by simp⟩
theorem good_is (s : ByteArray) : ∃ g, IsGood s g := by
  have key : ∀ n, (∃ g, IsGood s g) ∨ (n ≤ pos s n ∧ Oks s n) := by
    intro n
    induction n with
    | zero => right; exact ⟨Nat.zero_le _, fun j hj => absurd hj (by omega)⟩
    | succ n ih =>
      rcases ih with h | ⟨h1, h2⟩
      · exact .inl h
      · have hle := (pos_ge s n h2.lt).2
        by_cases hlt : pos s n < s.size
        · cases ho : (rdS s (pos s n)).2.2 with
          | true =>
            right
            refine ⟨?_, fun j hj => ?_⟩
            · have := rd_bd s (pos s n) hlt
              rw [pos_succ]; omega
            · rcases Nat.lt_succ_iff_lt_or_eq.1 hj with hj | rfl
              · exact h2 j hj
              · exact ⟨hlt, ho⟩
          | false => left; exact ⟨_, n, rfl, h2, .inr ⟨hlt, ho⟩⟩
        · left; exact ⟨_, n, rfl, h2, .inl (by omega)⟩
  rcases key (s.size + 1) with h | ⟨h1, h2⟩
  · exact h
  · have := (pos_ge s (s.size + 1) h2.lt).2
    omega
end Go.Proofs.YtabfhdmcljdjhaaGreatDoor.Gl
/- The walks of GlyphPlaces, GlyphClasses. -/
namespace Go.Proofs.YtabfhdmcljdjhaaGreatDoor.Gl
open Go.RowKit
set_option linter.unusedVariables false

theorem below_drewn {B : Nat} {w w1 : World} (h : Below B w w1) (n : Nat) : Below B w (w1.drewN n) := h.trans ⟨rfl, rfl, rfl, Nat.le_refl _, fun _ _ => rfl⟩
theorem cell_keep {W w1 : World} {x y : Value} {t : TypeId} (hb : Below (W.alloc (.cells #[x, y] t)).heap.size (W.alloc (.cells #[x, y] t)) w1) : w1.cell? ⟨W.heap.size, 0, none⟩ = some x ∧ w1.cell? ⟨W.heap.size, 1, none⟩ = some y := by
  obtain ⟨hc, _⟩ := bcell hb
  constructor
  · rw [hc _ _ (by simp)]; simp
  · rw [hc _ _ (by simp)]; simp
theorem pl_of {r : Int} (h : plB r ≠ emp) : r ∈ marks := by
  by_cases hm : r ∈ marks
  · exact hm
  · exact absurd (pl_none r (fun m h' e => hm (e ▸ h'))) h
/-- what a sign stands for is made of plain characters -/
def plainB (x : ByteArray) : Bool := x.data.all (fun c => 33 ≤ c.toNat && c.toNat < 128)
theorem plain_get {x : ByteArray} (h : plainB x = true) (i : Nat) (hi : i < x.size) : 33 ≤ x[i].toNat ∧ x[i].toNat < 128 := by
  unfold plainB at h
  rw [Array.all_eq_true] at h
  have := h i hi
  simp only [Bool.and_eq_true, decide_eq_true_eq] at this
  exact this
theorem marks_all : ∀ r ∈ marks, stB r = false ∧ reB r = false ∧ blB r = false ∧ (plainB (plB r) = true ∧ (plB r).size ≤ 3) ∧ 0 ≤ r ∧ r ≤ 1114111 := by decide +kernel
theorem bl_re {r : Int} (h : blB r = true) : reB r = false ∧ r ∉ marks ∧ stB r = false := by
  have h' := of_decide_eq_true h
  rcases h' with rfl | rfl | rfl | rfl <;> decide +kernel
theorem re_bd {r : Int} (h : reB r = true) : 0 ≤ r ∧ r ≤ 1114111 := by
  rw [re_eq, st_eq] at h
  unfold laB grB at h
  simp only [Bool.or_eq_true, decide_eq_true_eq] at h
  omega
theorem bl_bd {r : Int} (h : blB r = true) : 0 ≤ r ∧ r ≤ 1114111 := by
  have h' := of_decide_eq_true h
  omega
end Go.Proofs.YtabfhdmcljdjhaaGreatDoor.Gl
