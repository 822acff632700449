/- BinarySearch over rising texts; a name's coefficient. -/
import Derived.Test.YtiapkblebbcfbaaGreatNmA
import Derived.Test.YtiapkblebbcfbaaGreatGlW
namespace Go.Proofs.YtiapkblebbcfbaaGreat.Gl
open Go.RowKit
set_option linter.unusedVariables false

theorem nan1_at (x : ByteArray) (w : World) : Calls Tryz.prog 117 #[.string x] w fun e w' => e = .returned (.bool false) ∧ w = w' := by
  have h : (x.toList == x.toList) = true := by simp
  go_enter Tryz.func117, Tryz.ntmps117
  go_wp2
  go_ret
  exact ⟨rfl, rfl⟩
theorem nan2_at (x : ByteArray) (w : World) : Calls Tryz.prog 104 #[.string x] w fun e w' => e = .returned (.bool false) ∧ w = w' := by
  have h : (x.toList == x.toList) = true := by simp
  go_enter Tryz.func104, Tryz.ntmps104
  go_wp2
  go_ret
  exact ⟨rfl, rfl⟩
theorem less_at (x y : ByteArray) (w : World) : Calls Tryz.prog 99 #[.string x, .string y] w fun e w' => e = .returned (.bool (ltS x y)) ∧ w = w' := by
  go_enter Tryz.func99, Tryz.ntmps99
  go_wp2_with (go_at_call 117; refine (nan1_at _ _).mono ?_; rintro e w' ⟨rfl, rfl⟩)
  go_ret
  exact ⟨rfl, rfl⟩
theorem s_irr' (x : ByteArray) : ltS x x = false := by
  cases h : ltS x x with
  | false => rfl
  | true => exact absurd h (s_irr x)
theorem ris_lt {T : List ByteArray} (h : Ris T) {i j : Nat} (hij : i < j) (hj : j < T.length) : ltS (T.getD i emp) (T.getD j emp) = true := by
  rw [sgetD_of (by omega), sgetD_of hj]
  exact List.pairwise_iff_getElem.1 h i j (by omega) hj hij
theorem mem_getD {T : List ByteArray} {x : ByteArray} (h : x ∈ T) : ∃ j, j < T.length ∧ T.getD j emp = x := by
  obtain ⟨j, hj, e⟩ := List.mem_iff_getElem.1 h
  exact ⟨j, hj, by rw [sgetD_of hj]; exact e⟩
theorem mid_wrap {p q : Nat} (hp : p < q) (hq : q ≤ 100000) : IntKind.i64.wrap ((p : Int) + (q : Int)) = ((p + q : Nat) : Int) ∧ IntKind.u64.wrap ((p + q : Nat) : Int) = ((p + q : Nat) : Int) ∧ ((p + q : Nat) : Int) / 2 = (((p + q) / 2 : Nat) : Int) ∧ IntKind.i64.wrap (((p + q) / 2 : Nat) : Int) = (((p + q) / 2 : Nat) : Int) := by
  refine ⟨?_, ?_, ?_, ?_⟩
  · rw [IntKind.wrap_i64]; omega
  · rw [IntKind.wrap_u64]; omega
  · omega
  · rw [IntKind.wrap_i64]; omega
/-- what a search answers -/
def BsP (T : List ByteArray) (x : ByteArray) (n i : Nat) (b : Bool) : Prop := (b = true → i < n ∧ T.getD i emp = x) ∧ (b = false → x ∉ T)
def BsR (T : List ByteArray) (x : ByteArray) (n : Nat) (w : World) (e : Ending) (w' : World) : Prop := ∃ (i : Nat) (b : Bool), e = .returned (.tuple #[.int .i64 i, .bool b]) ∧ BsP T x n i b ∧ w = w'
set_option maxHeartbeats 1000000 in
theorem bs_at (ao : Option Addr) (n c : Nat) (T : List ByteArray) (x : ByteArray) (w : World) (h : RdS w ao n c T) (hR : Ris T) (hn : n ≤ 100000) :
    Calls Tryz.prog 87 #[.slice ao n c, .string x] w (BsR T x n w) := by
  have hcn := h.lecap
  have hcx := h.lemax
  have HT : Hid (T.length = n) := h.eqlen
  have HR : Hid (Ris T) := hR
  clear hR
  go_enter Tryz.func87, Tryz.ntmps87
  go_wp2
  go_loop [7, 8] (fun i j => ∃ p q : Nat, p ≤ q ∧ q ≤ n ∧ i = .int .i64 p ∧ j = .int .i64 q ∧ Hid (∀ k, k < p → ltS (T.getD k emp) x = true) ∧ Hid (∀ k, q ≤ k → k < n → ltS (T.getD k emp) x = false)) (fun i j => (intOf j).toNat - (intOf i).toNat)
  case atStart => exact ⟨0, n, Nat.zero_le _, Nat.le_refl _, rfl, rfl, fun k hk => absurd hk (by omega), fun k h1 h2 => absurd h2 (by omega)⟩
  case round =>
    obtain ⟨p, q, hpq, hq, rfl, rfl, hlo, hhi⟩ := hrel
    by_cases hlt : p < q
    · obtain ⟨e1, e2, e3, e4⟩ := mid_wrap hlt (Nat.le_trans hq hn)
      have hm1 : p ≤ (p + q) / 2 := by omega
      have hm2 : (p + q) / 2 < q := by omega
      generalize hM : (p + q) / 2 = m at e3 e4 hm1 hm2
      have hmn : m < n := by omega
      obtain ⟨g, o, rfl, hc0⟩ := h.cell m hmn
      have HLE : Hid (∀ k, k < m → ltS (T.getD k emp) (T.getD m emp) = true) := fun k hk => ris_lt HR.out hk (by rw [HT.out]; exact hmn)
      have HGE : Hid (∀ k, m ≤ k → k < n → T.getD k emp = T.getD m emp ∨ ltS (T.getD m emp) (T.getD k emp) = true) := fun k hk hk2 => by
        rcases Nat.lt_or_ge m k with g | g
        · exact .inr (ris_lt HR.out g (by rw [HT.out]; exact hk2))
        · exact .inl (by rw [show k = m from by omega])
      generalize hY : T.getD m emp = y at hc0 HLE HGE
      have HY : Hid (T.getD m emp = y) := hY
      clear hY
      have hb1 : Op.bytesLess y.toList x.toList = ltS y x := rfl
      cases hy : ltS y x with
      | true =>
        go_wp2_with (go_at_call 99; refine (less_at _ _ _).mono ?_; rintro e w' ⟨rfl, rfl⟩; rw [hy])
        go_roundw
        case rel =>
          refine ⟨m + 1, q, by omega, hq, by go_num, rfl, fun k hk => ?_, hhi⟩
          rcases Nat.lt_or_ge k m with g | g
          · exact s_tr (HLE.out k g) hy
          · rw [show k = m from by omega, HY.out]; exact hy
        case measure => simp [intOf]; omega
      | false =>
        go_wp2_with (go_at_call 99; refine (less_at _ _ _).mono ?_; rintro e w' ⟨rfl, rfl⟩; rw [hy])
        go_roundw
        case rel =>
          refine ⟨p, m, by omega, by omega, rfl, (by have e5 := e3; rw [Int.natCast_add] at e5; rw [e5]), hlo, fun k hk hk2 => ?_⟩
          rcases HGE.out k hk hk2 with g | g
          · rw [g]; exact hy
          · cases hz : ltS (T.getD k emp) x with
            | false => rfl
            | true => rw [s_tr g hz] at hy; cases hy
        case measure => simp [intOf]; omega
    · have hpe : p = q := by omega
      subst hpe
      have hnl : ((p : Int) < (p : Int)) = False := by simp
      by_cases hpn : p < n
      · obtain ⟨g, o, rfl, hc0⟩ := h.cell p hpn
        by_cases hx : T.getD p emp = x
        · have hb1 : (x.toList == x.toList) = true := by simp
          rw [hx] at hc0
          go_wp2
          go_ret2
          exact ⟨p, true, rfl, ⟨fun _ => ⟨hpn, hx⟩, fun e => by cases e⟩, rfl⟩
        · have hb1 : ((T.getD p emp).toList == x.toList) = false := by
            cases hz : ((T.getD p emp).toList == x.toList) with
            | false => rfl
            | true => exact absurd ((eqS_iff _ _).1 hz) hx
          have HNX : Hid (x ∉ T) := fun hm => by
            obtain ⟨k, hk, rfl⟩ := mem_getD hm
            rw [HT.out] at hk
            rcases Nat.lt_trichotomy k p with g | g | g
            · have := hlo.out k g; rw [s_irr'] at this; cases this
            · exact hx (by rw [g])
            · have h1 := hhi.out p (Nat.le_refl _) hpn
              rw [ris_lt HR.out g (by rw [HT.out]; exact hk)] at h1; cases h1
          generalize T.getD p emp = y at hc0 hb1 hx
          go_wp2_with (go_at_call 104; refine (nan2_at _ _).mono ?_; rintro e w' ⟨rfl, rfl⟩)
          go_ret2
          exact ⟨p, false, rfl, ⟨(fun e => by cases e), fun _ => HNX.out⟩, rfl⟩
      · have HNX : Hid (x ∉ T) := fun hm => by
          obtain ⟨k, hk, rfl⟩ := mem_getD hm
          rw [HT.out] at hk
          have := hlo.out k (by omega)
          rw [s_irr'] at this; cases this
        go_wp2
        go_ret2
        exact ⟨p, false, rfl, ⟨(fun e => by cases e), fun _ => HNX.out⟩, rfl⟩
theorem cof_at {ns : List ByteArray} {cs : List Int} (hR : Ris ns) (i : Nat) (hi : i < ns.length) (hl : cs.length = ns.length) : cof (ns.getD i emp) ns cs = cs.getD i 0 := by
  induction ns generalizing cs i with
  | nil => cases hi
  | cons n ns ih =>
    cases cs with
    | nil => cases hl
    | cons c cs =>
      rw [ris_cons] at hR
      rw [cof]
      cases i with
      | zero => rw [if_pos (by simp)]; simp
      | succ i =>
        have hi' : i < ns.length := by simpa using hi
        have e1 : (n :: ns).getD (i + 1) emp = ns.getD i emp := by simp
        have e2 : (c :: cs).getD (i + 1) 0 = cs.getD i 0 := by simp
        rw [e1, e2, if_neg, ih hR.2 i hi' (by simpa using hl)]
        intro h
        have := hR.1 (ns.getD i emp) (by rw [sgetD_of hi']; exact List.getElem_mem hi')
        rw [(eqS_iff _ _).1 h, s_irr'] at this; cases this
/-- a sum in memory: its names, its coefficients -/
def RdSm (w : World) (s : Sm) (no co : Option Addr) (n c m d : Nat) : Prop := RdS w no n c s.ns ∧ RdZ w co m d s.cs
abbrev sumV (s : Sm) (no co : Option Addr) (n c m d : Nat) : Value := .agg #[.slice no n c, .slice co m d, .int .i64 s.k]
theorem RdSm.below {w w' : World} {s : Sm} {no co : Option Addr} {n c m d : Nat} (h : RdSm w s no co n c m d) (hb : Below w.heap.size w w') : RdSm w' s no co n c m d := ⟨h.1.below (Nat.le_refl _) hb, h.2.below (Nat.le_refl _) hb⟩
theorem coef_at (no co : Option Addr) (n c m d : Nat) (s : Sm) (k : Int) (x : ByteArray) (w : World) (h : RdS w no n c s.ns) (h2 : RdZ w co m d s.cs) (hl : s.cs.length = s.ns.length) (hR : Ris s.ns) (hn : n ≤ 100000) :
    Calls Tryz.prog 65 #[.agg #[.slice no n c, .slice co m d, .int .i64 k], .string x] w fun e w' => e = .returned (.int .i64 (cof x s.ns s.cs)) ∧ Below w.heap.size w w' := by
  have hcn := h.lecap
  have hcx := h.lemax
  have hcn2 := h2.lecap
  have hcx2 := h2.lemax
  have hmn : m = n := by rw [← h.eqlen, ← h2.eqlen]; exact hl
  have HT : Hid (s.ns.length = n) := h.eqlen
  have HL : Hid (s.cs.length = s.ns.length) := hl
  have HR : Hid (Ris s.ns) := hR
  subst hmn
  clear hl hR
  generalize hc : cof x s.ns s.cs = cx
  have HC : Hid (cof x s.ns s.cs = cx) := hc
  clear hc
  go_enter Tryz.func65, Tryz.ntmps65
  go_wp2_with (fail)
  refine (bs_at no m c s.ns x _ (h.below (Nat.le_refl _) ((Below.refl _ _).alloc (Nat.le_refl _) _)) HR.out hn).mono ?_
  rintro e w' ⟨i, b, rfl, hP, rfl⟩
  cases b with
  | true =>
    obtain ⟨hi, hx⟩ := hP.1 rfl
    obtain ⟨g, o, rfl, hc0⟩ := h2.cell i hi
    have hgl := World.block_lt_of_cell? _ _ hc0
    have HE : Hid (cof x s.ns s.cs = s.cs.getD i 0) := by rw [← hx]; exact cof_at HR.out i (by rw [HT.out]; exact hi) HL.out
    have hc1 := hc0
    go_wp2
    go_ret
    exact ⟨ret1 (HE.out.symm.trans HC.out), (Below.refl _ _).alloc (Nat.le_refl _) _⟩
  | false =>
    have HE : Hid (cof x s.ns s.cs = 0) := cof_none x _ _ (hP.2 rfl)
    go_wp2
    go_ret
    exact ⟨ret1 (HE.out.symm.trans HC.out), (Below.refl _ _).alloc (Nat.le_refl _) _⟩
end Go.Proofs.YtiapkblebbcfbaaGreat.Gl
