/- NormHolds: what a normal atom says of values. -/
import Derived.Test.YtiapkblebbcfbaaNmX
import Derived.Deep.RegionHeld3
namespace Go.Proofs.Ytiapkblebbcfbaa.Gl
open Go.RowKit
set_option linter.unusedVariables false
set_option linter.unusedSimpArgs false

theorem val_dotz {D : Sm} {M : Nat} (L : List Int) (hg : D.good nmB M) (hL : L.length = D.ns.length) : D.val (evE D.ns L) = dotz D.cs L + D.k := by
  unfold Sm.val
  have := dot_dotz D.ns D.cs L (ris_nodup hg.ris) hg.len hL
  show dot (fun x => cof x D.ns L) D.ns D.cs + D.k = _
  rw [this]
theorem dotz_mod (m : Int) : ∀ (cs L : List Int), m ∣ dotz (cs.map (fun c => c % m)) L - dotz cs L
  | [], _ => by simp [dotz]
  | c :: cs, [] => by simp [dotz]
  | c :: cs, v :: L => by
    have h := dotz_mod m cs L
    rw [List.map_cons, dotz, dotz]
    have h1 : m ∣ (c % m - c) * v := Int.dvd_mul_of_dvd_left ⟨-(c / m), by have := Int.mul_ediv_add_emod c m; rw [Int.mul_neg]; omega⟩
    have e : c % m * v + dotz (cs.map (fun c => c % m)) L - (c * v + dotz cs L) = (c % m - c) * v + (dotz (cs.map (fun c => c % m)) L - dotz cs L) := by rw [Int.sub_mul]; omega
    rw [e]
    exact Int.dvd_add h1 h
theorem tmod_dvd (m z : Int) : z.tmod m = 0 ↔ m ∣ z := ⟨Int.dvd_of_tmod_eq_zero, Int.tmod_eq_zero_of_dvd⟩
theorem cong_same {m x y : Int} (h : m ∣ x - y) : x.tmod m = 0 ↔ y.tmod m = 0 := by
  rw [tmod_dvd, tmod_dvd]
  exact ⟨fun k => by have := Int.dvd_sub k h; rwa [show x - (x - y) = y by omega] at this, fun k => by have := Int.dvd_add h k; rwa [show x - y + y = x by omega] at this⟩
/-- what Holds comes to: of the normal atom's kind, rests and bound -/
structure Hld (o m A B : Int) (N : Nr) (S : Int) : Prop where
  le : o = 9 → N.kd = 0 ∧ (S ≤ N.bd ↔ A ≤ B)
  lt : o = 10 → N.kd = 0 ∧ (S ≤ N.bd ↔ A < B)
  ge : o = 11 → N.kd = 0 ∧ (S ≤ N.bd ↔ B ≤ A)
  gt : o = 12 → N.kd = 0 ∧ (S ≤ N.bd ↔ B < A)
  eq : o = 13 ∨ o = 14 → N.kd = 1 ∧ (S = N.bd ↔ A = B)
  cg : o = 15 → N.kd = 2 ∧ N.md = m ∧ ((S - N.bd).tmod m = 0 ↔ (A - B).tmod m = 0)
theorem holds_of {o m : Int} {s t : Tm} {D : Sm} {M : Nat} (L : List Int) (hg : D.good nmB M) (hL : L.length = D.ns.length) (hv : ∀ ev, D.val ev = if o = 11 ∨ o = 12 then evT ev t - evT ev s else evT ev s - evT ev t) :
    Hld o m (evT (evE D.ns L) s) (evT (evE D.ns L) t) (nrOf o m D) (dotz (nrOf o m D).cs L) := by
  have h := hv (evE D.ns L)
  rw [val_dotz L hg hL] at h
  generalize evT (evE D.ns L) s = A at h
  generalize evT (evE D.ns L) t = B at h
  constructor
  · rintro rfl
    rw [if_neg (by decide)] at h
    exact ⟨rfl, by show dotz D.cs L ≤ -D.k ↔ _; omega⟩
  · rintro rfl
    rw [if_neg (by decide)] at h
    exact ⟨rfl, by show dotz D.cs L ≤ -D.k - 1 ↔ _; omega⟩
  · rintro rfl
    rw [if_pos (by decide)] at h
    exact ⟨rfl, by show dotz D.cs L ≤ -D.k ↔ _; omega⟩
  · rintro rfl
    rw [if_pos (by decide)] at h
    exact ⟨rfl, by show dotz D.cs L ≤ -D.k - 1 ↔ _; omega⟩
  · intro ho
    rw [if_neg (by omega)] at h
    rcases ho with rfl | rfl
    · exact ⟨rfl, by show dotz D.cs L = -D.k ↔ _; omega⟩
    · exact ⟨rfl, by show dotz D.cs L = -D.k ↔ _; omega⟩
  · rintro rfl
    rw [if_neg (by decide)] at h
    refine ⟨rfl, rfl, ?_⟩
    show (dotz (D.cs.map (fun c => c % m)) L - (-D.k) % m).tmod m = 0 ↔ _
    rw [← h]
    refine cong_same ?_
    have h1 := dotz_mod m D.cs L
    have h2 : m ∣ -D.k - (-D.k) % m := ⟨-D.k / m, by have := Int.mul_ediv_add_emod (-D.k) m; omega⟩
    have := Int.dvd_add h1 h2
    rwa [show dotz (D.cs.map (fun c => c % m)) L - dotz D.cs L + (-D.k - -D.k % m) = dotz (D.cs.map (fun c => c % m)) L - -D.k % m - (dotz D.cs L + D.k) by omega] at this
/-- two terms of an atom -/
theorem dif_val {o : Int} {s t : Tm} {D : Sm} (hs : s.all (wellT nmB) = true) (ht : t.all (wellT nmB) = true) (h : dfS o s t = .ok D) : ∀ ev, D.val ev = if o = 11 ∨ o = 12 then evT ev t - evT ev s else evT ev s - evT ev t := by
  intro ev
  unfold dfS at h
  cases hl : lin s with
  | er e => rw [hl] at h; cases h
  | ok a =>
    cases hm : lin t with
    | er e => rw [hl, hm] at h; cases h
    | ok b =>
      rw [hl, hm] at h
      obtain ⟨rfl, -⟩ := mkS_ok h
      have ga := lin_good nmB s hs a hl
      have gb := lin_good nmB t ht b hm
      rw [← lin_val nmB ev s hs a hl, ← lin_val nmB ev t ht b hm]
      unfold difS
      split
      · exact cmb_sub ev gb ga
      · exact cmb_sub ev ga gb
/-- an atom that has a normal form: what it says -/
theorem atm_holds {o m : Int} {x : ByteArray} {s t : Tm} {N : Nr} (h0 : chk nmB (.mk o x m [s, t] []) = 0) (h1 : ¬ o < 9) (h : atm (.mk o x m [s, t] []) = .ok N) (L : List Int) (hL : L.length = N.ns.length) :
    Hld o m (evT (evE N.ns L) s) (evT (evE N.ns L) t) N (dotz N.cs L) := by
  have hr := fm_right h0
  have hs := hr.2.1 s (List.mem_cons_self ..)
  have ht := hr.2.1 t (List.mem_cons_of_mem _ (List.mem_cons_self ..))
  have e : atm (.mk o x m [s, t] []) = atmS o m [s, t] := atm_at h0 h1
  rw [e, atmS_eq] at h
  cases hd : dfS o s t with
  | er e => rw [hd] at h; cases h
  | ok D =>
    rw [hd] at h
    have h : finS o m D = .ok N := h
    have hN : N = nrOf o m D := by
      unfold finS at h
      split at h
      · split at h
        · cases h; rfl
        · cases h
      · cases h
    subst hN
    have hns : (nrOf o m D).ns = D.ns := by unfold nrOf; split <;> rfl
    rw [hns] at hL ⊢
    have hz : s.size + t.size ≤ 499 := by
      have := hr.2.2
      rw [Tm.sizeL, Tm.sizeL, Tm.sizeL] at this
      omega
    exact holds_of L (dfS_good hs ht hz hd) hL (dif_val hs ht hd)
end Go.Proofs.Ytiapkblebbcfbaa.Gl
/- NormHolds: worked, with its bound. -/
namespace Go.Proofs.Ytiapkblebbcfbaa.Gl
open Go.RowKit
set_option linter.unusedVariables false
set_option linter.unusedSimpArgs false

/-- what worked answers -/
def WkB (k0 : Int) (cs vs : List Int) (w : World) (e : Ending) (w' : World) : Prop := ∃ (v : Int) (ok : Bool), e = .returned (.tuple #[.int .i64 v, .bool ok]) ∧ (ok = true → v = k0 + dotz cs vs ∧ -2251799813685248 ≤ v ∧ v ≤ 2251799813685248) ∧ w = w'
set_option maxHeartbeats 4000000 in
theorem worked_b (ao bo : Option Addr) (n c m d : Nat) (cs vs : List Int) (k0 : Int) (w : World) (h : RdZ w ao n c cs) (h2 : RdZ w bo m d vs) (hmn : m = n) (hv : Sml vs) (hk0 : -1000000 ≤ k0 ∧ k0 ≤ 1000000) :
    Calls Try.prog 14 #[.slice ao n c, .slice bo m d, .int .i64 k0] w (WkB k0 cs vs w) := by
  subst hmn
  have hcap := h.lecap
  have hmax := h.lemax
  have hcap2 := h2.lecap
  have hmax2 := h2.lemax
  have HL : Hid (cs.length = m) := h.eqlen
  have HL2 : Hid (vs.length = m) := h2.eqlen
  have HV := mkHid hv
  clear hv
  go_enter Try.func14, Try.ntmps14
  go_wp2
  go_loop [2, 12] (fun K i => ∃ (j : Nat) (kk : Int), j ≤ m ∧ i = .int .i64 j ∧ K = .int .i64 kk ∧ Hid (kk = k0 + dotz (cs.take j) (vs.take j) ∧ -2251799813685248 ≤ kk ∧ kk ≤ 2251799813685248)) (fun K i => m - (intOf i).toNat)
  case atStart => exact ⟨0, k0, Nat.zero_le _, rfl, rfl, by simp [dotz], by omega, by omega⟩
  case round =>
    obtain ⟨j, kk, hj, rfl, rfl, hkk⟩ := hrel
    by_cases hlt : j < m
    · obtain ⟨g, o, rfl, hc⟩ := h.cell j hlt
      obtain ⟨g', o', rfl, hc'⟩ := h2.cell j hlt
      have HD := mkHid (dotz_take cs vs j (by rw [HL.out]; exact hlt) (by rw [HL2.out]; exact hlt))
      have hvb : -999 ≤ vs.getD j 0 ∧ vs.getD j 0 ≤ 999 := HV.out _ (by rw [getD_of (by rw [HL2.out]; exact hlt)]; exact List.getElem_mem _)
      generalize cs.getD j 0 = z at hc HD
      generalize vs.getD j 0 = v at hc' HD hvb
      by_cases c1 : 1073741824 ≤ z
      · have d1 : decide (1073741824 ≤ z) = true := decide_eq_true c1
        go_wp2
        go_ret2
        exact ⟨_, false, rfl, (fun e => by cases e), rfl⟩
      · have d1 : decide (1073741824 ≤ z) = false := decide_eq_false c1
        by_cases c2 : z ≤ -1073741824
        · have d2 : decide (z ≤ -1073741824) = true := decide_eq_true c2
          go_wp2
          go_ret2
          exact ⟨_, false, rfl, (fun e => by cases e), rfl⟩
        · have d2 : decide (z ≤ -1073741824) = false := decide_eq_false c2
          by_cases c3 : 1125899906842624 ≤ kk
          · have d3 : decide (1125899906842624 ≤ kk) = true := decide_eq_true c3
            go_wp2
            go_ret2
            exact ⟨_, false, rfl, (fun e => by cases e), rfl⟩
          · have d3 : decide (1125899906842624 ≤ kk) = false := decide_eq_false c3
            by_cases c4 : kk ≤ -1125899906842624
            · have d4 : decide (kk ≤ -1125899906842624) = true := decide_eq_true c4
              go_wp2
              go_ret2
              exact ⟨_, false, rfl, (fun e => by cases e), rfl⟩
            · have d4 : decide (kk ≤ -1125899906842624) = false := decide_eq_false c4
              have hp : -1073741824000 ≤ z * v ∧ z * v ≤ 1073741824000 := by
                have h1 : (z * v).natAbs ≤ 1073741824 * 1000 := by
                  rw [Int.natAbs_mul]
                  exact Nat.mul_le_mul (by omega) (by omega)
                omega
              generalize hzv : z * v = zv at hp HD
              have w1 : wrap64 zv = zv := by unfold wrap64; omega
              have w2 : wrap64 (kk + zv) = kk + zv := by unfold wrap64; omega
              have HK : Hid (wrap64 (kk + wrap64 (z * v)) = k0 + dotz (cs.take (j + 1)) (vs.take (j + 1)) ∧ -2251799813685248 ≤ wrap64 (kk + wrap64 (z * v)) ∧ wrap64 (kk + wrap64 (z * v)) ≤ 2251799813685248) := by
                have hk1 := hkk.out.1
                rw [hzv, w1, w2]
                exact ⟨by rw [HD.out, hk1]; omega, by omega, by omega⟩
              clear hzv hp hvb HD hkk w1 w2
              go_wp2
              go_roundw
              case rel => exact ⟨j + 1, _, by omega, by go_num, rfl, HK⟩
              case measure => simp [intOf]; omega
    · obtain rfl : j = m := by omega
      have HK : Hid (kk = k0 + dotz cs vs ∧ -2251799813685248 ≤ kk ∧ kk ≤ 2251799813685248) := by
        refine ⟨?_, hkk.out.2⟩
        rw [hkk.out.1, List.take_of_length_le (by rw [HL.out]; exact Nat.le_refl _), List.take_of_length_le (by rw [HL2.out]; exact Nat.le_refl _)]
      go_wp2
      go_ret2
      exact ⟨kk, true, rfl, fun _ => HK.out, rfl⟩
end Go.Proofs.Ytiapkblebbcfbaa.Gl
/- NormHolds: what an atom's normal form is like; the walk where there is none. -/
namespace Go.Proofs.Ytiapkblebbcfbaa.Gl
open Go.RowKit
set_option linter.unusedVariables false
set_option linter.unusedSimpArgs false

theorem fin_cases9 (o m : Int) (D : Sm) : finS o m D = .er 91 ∨ finS o m D = .ok (nrOf o m D) := by
  unfold finS
  split
  · split
    · exact .inr rfl
    · exact .inl rfl
  · exact .inl rfl
theorem atm_er {f : Fm} {e : Nat} (h : atm f = .er e) : e ≠ 0 := by
  by_cases h0 : chk nmB f = 0
  · by_cases h1 : f.op < 9
    · rw [atm_low h0 h1] at h; cases h; decide
    · cases f with
      | mk o x m t a =>
        obtain ⟨⟨s, u, rfl⟩, rfl, -⟩ := fm_atom (fm_right h0).1 h1
        have e1 : atm (.mk o x m [s, u] []) = atmS o m [s, u] := atm_at h0 h1
        have hr := fm_right h0
        have hs := hr.2.1 s (List.mem_cons_self ..)
        have ht := hr.2.1 u (List.mem_cons_of_mem _ (List.mem_cons_self ..))
        rw [e1, atmS_eq] at h
        cases hd : dfS o s u with
        | er e2 =>
          rw [hd] at h
          cases h
          rcases dfS_er hs ht hd with rfl | rfl <;> decide
        | ok D =>
          rw [hd] at h
          have h : finS o m D = .er e := h
          rcases fin_cases9 o m D with k | k
          · rw [k] at h; cases h; decide
          · rw [k] at h; cases h
  · rw [atm_no h0] at h
    cases h
    exact h0
/-- what an atom that has a normal form is like -/
structure AtmOk (o m : Int) (s t : Tm) (N : Nr) : Prop where
  op : 9 ≤ o ∧ o ≤ 15
  md : o = 15 → 1 ≤ m ∧ N.md = m
  len : N.cs.length = N.ns.length
  ris : Ris N.ns
  few : N.ns.length ≤ 1000
  ws : s.all (wellT nmB) = true
  wt : t.all (wellT nmB) = true
  hld : ∀ L : List Int, L.length = N.ns.length → Hld o m (evT (evE N.ns L) s) (evT (evE N.ns L) t) N (dotz N.cs L)
theorem atm_ok {f : Fm} {N : Nr} (h : atm f = .ok N) : ∃ o m s t x, f = .mk o x m [s, t] [] ∧ AtmOk o m s t N := by
  by_cases h0 : chk nmB f = 0
  · by_cases h1 : f.op < 9
    · rw [atm_low h0 h1] at h; cases h
    · cases f with
      | mk o x m t a =>
        obtain ⟨⟨s, u, rfl⟩, rfl, hm, -, ho⟩ := fm_atom (fm_right h0).1 h1
        have e1 : atm (.mk o x m [s, u] []) = atmS o m [s, u] := atm_at h0 h1
        have hr := fm_right h0
        have hs := hr.2.1 s (List.mem_cons_self ..)
        have ht := hr.2.1 u (List.mem_cons_of_mem _ (List.mem_cons_self ..))
        have hh := h
        rw [e1, atmS_eq] at hh
        cases hd : dfS o s u with
        | er e2 => rw [hd] at hh; cases hh
        | ok D =>
          rw [hd] at hh
          have hh : finS o m D = .ok N := hh
          have hN : N = nrOf o m D := by
            rcases fin_cases9 o m D with k | k
            · rw [k] at hh; cases hh
            · rw [k] at hh; cases hh; rfl
          have hz : s.size + u.size ≤ 499 := by
            have := hr.2.2
            rw [Tm.sizeL, Tm.sizeL, Tm.sizeL] at this
            omega
          have gD := dfS_good hs ht hz hd
          have hns : N.ns = D.ns := by subst hN; unfold nrOf; split <;> rfl
          have hcs : N.cs.length = D.cs.length := by
            subst hN; unfold nrOf; split
            · show (D.cs.map _).length = _; simp
            · rfl
          have h1' : ¬ o < 9 := h1
          refine ⟨o, m, s, u, x, rfl, ⟨⟨by omega, ho⟩, fun e => ⟨hm e, ?_⟩, by rw [hcs, hns]; exact gD.len, by rw [hns]; exact gD.ris, by rw [hns]; exact gD.few, hs, ht, fun L hL => atm_holds h0 h1 h L hL⟩⟩
          subst hN e
          rfl
  · rw [atm_no h0] at h; cases h
end Go.Proofs.Ytiapkblebbcfbaa.Gl
/- NormHolds: the walk, whole. -/
namespace Go.Proofs.Ytiapkblebbcfbaa.Gl
open Go.RowKit
set_option linter.unusedVariables false
set_option linter.unusedSimpArgs false

set_option maxRecDepth 100000 in
set_option maxHeartbeats 40000000 in
theorem holds_walk (f : Fm) (v : Value) (ao : Option Addr) (n c : Nat) (zs : List Int) (w : World) (hv : FmV w f v) (h : RdZ w ao n c zs) :
    Calls Try.prog 5 #[v, .slice ao n c] w fun e w' => e = .returned (.bool true) ∧ Below w.heap.size w w' := by
  have FX := mkHid nfixed_at
  have AT : Hid (∀ w', Below w.heap.size w w' → Calls Try.prog 15 #[v] w' fun e w'' => ∃ v', e = .returned v' ∧ ArV w'.heap.size w'' (atm f) v' ∧ Below w'.heap.size w' w'') := fun w' hb => atom_any w f v w' hv hb
  have SM : Hid (∀ w' m, m ≤ 1000 → Below w.heap.size w w' → Calls Try.prog 12 #[.slice ao n c, .int .i64 (m : Nat)] w' fun e w'' => ∃ g L, e = .returned (.slice (some ⟨g, 0, none⟩) m m) ∧ RdZ w'' (some ⟨g, 0, none⟩) m m L ∧ Sml L ∧ Below w'.heap.size w' w'') := fun w' m hm hb => small_at ao n c m zs w' (h.below (Nat.le_refl _) hb) hm
  obtain ⟨c0, c1, c2, c3, c4, rfl, hr⟩ := hv
  have hB1 := bal w (.cells #[c0, c1, c2, c3, c4] 46)
  have hR1 := rb_new w #[c0, c1, c2, c3, c4] 46
  go_enter Try.func5, Try.ntmps5
  go_wp2_with (fail)
  generalize w.alloc (.cells #[c0, c1, c2, c3, c4] 46) = w1 at hB1 hR1 ⊢
  refine (FX.out w1).mono ?_
  rintro e w2 ⟨rfl, hB2⟩
  have hB12 := bt2 hB1 hB2
  have hR2 := hR1.keep hB2
  have r0 : w2.cell? ⟨w.heap.size, 0, none⟩ = some c0 := (txcell (vs := #[c0, c1, c2, c3, c4]) hR2 0 _ rfl).1
  have r1 : w2.cell? ⟨w.heap.size, 1, none⟩ = some c1 := (txcell (vs := #[c0, c1, c2, c3, c4]) hR2 1 _ rfl).1
  have r2 : w2.cell? ⟨w.heap.size, 2, none⟩ = some c2 := (txcell (vs := #[c0, c1, c2, c3, c4]) hR2 2 _ rfl).1
  have r3 : w2.cell? ⟨w.heap.size, 3, none⟩ = some c3 := (txcell (vs := #[c0, c1, c2, c3, c4]) hR2 3 _ rfl).1
  have r4 : w2.cell? ⟨w.heap.size, 4, none⟩ = some c4 := (txcell (vs := #[c0, c1, c2, c3, c4]) hR2 4 _ rfl).1
  go_wp2_with (fail)
  refine (AT.out w2 hB12).mono ?_
  rintro e w3 ⟨v', rfl, hA, hB3⟩
  have hB13 := bt2 hB12 hB3
  have hR3 := hR2.keep hB3
  clear r0 r1 r2 r3 r4 AT FX
  cases ha : atm f with
  | er e =>
    have he := atm_er ha
    rw [ha] at hA
    have hv' : v' = .tuple #[.agg zN, .int .i64 e] := hA
    subst hv'
    have hx : ((e : Int) != 0) = true := by rw [bne_iff_ne]; omega
    clear ha hA
    have hB4 := bal w3 (.cells zN 26)
    go_wp2_with (fail)
    go_ret
    exact ⟨rfl, bt2 hB13 hB4⟩
  | ok N =>
    rw [ha] at hA
    obtain ⟨o, m, s, t, x, rfl, hOK⟩ := atm_ok ha
    obtain ⟨no, co, nn, nc, on, oc, rfl, hN, -, -⟩ := hA
    rw [RdF] at hr
    obtain ⟨rfl, rfl, rfl, ⟨hio, him, hix⟩, ⟨to, tcap, rfl, htcap, htm, hk⟩, ⟨bo, bcap, rfl, hbcap, hbm, -⟩⟩ := hr
    obtain ⟨g, of, d0, d1, d2, d3, f0, f1, f2, f3, rfl, q0, q1, q2, q3, hrt, t0, t1, t2, t3, hru, hg⟩ := two_kids hk
    have htcap' : 2 ≤ tcap := htcap
    have HH := mkHid hOK
    have hln : on = nn := by rw [← hN.cs.eqlen, ← hN.ns.eqlen]; exact hOK.len
    subst hln
    have hq : ((on : Int) != (on : Int)) = false := by simp
    have hfew : on ≤ 1000 := by rw [← hN.ns.eqlen]; exact hOK.few
    have hmd : ∃ b, ((N.kd == 2) && decide (N.md < 1)) = b := ⟨_, rfl⟩
    have hkd : N.kd = 2 → decide (N.md < 1) = false := fun e => by
      have hL := HH.out.hld (List.replicate N.ns.length 0) (by simp)
      have ho := HH.out.op
      refine decide_eq_false ?_
      by_cases e15 : o = 15
      · have := HH.out.md e15
        omega
      · exfalso
        by_cases e9 : o = 9
        · have := (hL.le e9).1; omega
        · by_cases e10 : o = 10
          · have := (hL.lt e10).1; omega
          · by_cases e11 : o = 11
            · have := (hL.ge e11).1; omega
            · by_cases e12 : o = 12
              · have := (hL.gt e12).1; omega
              · have := (hL.eq (by omega)).1; omega
    have hB4 := bal w3 (.cells (nrA N.kd N.bd N.md no co on nc on oc) 26)
    have hR4 := hR3.keep hB4
    have hN4 := rb_new w3 (nrA N.kd N.bd N.md no co on nc on oc) 26
    have r0 : (w3.alloc (.cells (nrA N.kd N.bd N.md no co on nc on oc) 26)).cell? ⟨w.heap.size, 0, none⟩ = some (.int .i64 o) := (txcell (vs := #[.int .i64 o, .string x, .int .i64 m, .slice (some ⟨g, of, none⟩) 2 tcap, .slice bo 0 bcap]) hR4 0 _ rfl).1
    have r3 : (w3.alloc (.cells (nrA N.kd N.bd N.md no co on nc on oc) 26)).cell? ⟨w.heap.size, 3, none⟩ = some (.slice (some ⟨g, of, none⟩) 2 tcap) := (txcell (vs := #[.int .i64 o, .string x, .int .i64 m, .slice (some ⟨g, of, none⟩) 2 tcap, .slice bo 0 bcap]) hR4 3 _ rfl).1
    have hmx : Try.prog.follows .mixedOrders = true := by kernel_rfl
    by_cases k2 : N.kd = 2
    · have hk2 : (N.kd == 2) = true := by rw [k2]; rfl
      have hmd2 := hkd k2
      have K2 := mkHid k2
      clear k2 hkd hmd
      go_wp2_with (fail)
      refine (SM.out _ on hfew (bt2 hB13 hB4)).mono ?_
      rintro e w5 ⟨gl, L, rfl, hL5, hS5, hB5⟩
      have hB15 := bt2 (bt2 hB13 hB4) hB5
      have hR5 := hR4.keep hB5
      have hN5 := hN4.keep hB5
      have hW35 := bt2 hB4 hB5
      clear r0 r3 SM
      generalize w3.alloc (.cells (nrA N.kd N.bd N.md no co on nc on oc) 26) = w4 at *
      have BX : Hid (∀ w' : World, Below w5.heap.size w5 w' → w'.cell? ⟨w.heap.size, 3, none⟩ = some (.slice (some ⟨g, of, none⟩) 2 tcap) ∧ w'.cell? ⟨g, of, none⟩ = some d0 ∧ w'.cell? ⟨g, of + 1, none⟩ = some d1 ∧ w'.cell? ⟨g, of + 2, none⟩ = some d2 ∧ w'.cell? ⟨g, of + 3, none⟩ = some d3 ∧ w'.cell? ⟨w3.heap.size, 1, none⟩ = some (.slice no on nc)) := fun w' hb => ⟨(txcell (vs := #[.int .i64 o, .string x, .int .i64 m, .slice (some ⟨g, of, none⟩) 2 tcap, .slice bo 0 bcap]) (hR5.keep hb) 3 _ rfl).1, ((bt2 hB15 hb).cell (p := ⟨g, of, none⟩) hg).trans q0, ((bt2 hB15 hb).cell (p := ⟨g, of + 1, none⟩) hg).trans q1, ((bt2 hB15 hb).cell (p := ⟨g, of + 2, none⟩) hg).trans q2, ((bt2 hB15 hb).cell (p := ⟨g, of + 3, none⟩) hg).trans q3, (txcell (vs := nrA N.kd N.bd N.md no co on nc on oc) (hN5.keep hb) 1 _ rfl).1⟩
      have VC : Hid (∀ w' : World, Below w5.heap.size w5 w' → Calls Try.prog 13 #[.agg #[d0, d1, d2, d3], .slice no on nc, .slice (some ⟨gl, 0, none⟩) on on] w' (VlR (evT (evE N.ns L) s) w')) := fun w' hb => value_at N.ns L no (some ⟨gl, 0, none⟩) on nc on s HH.out.ws w (.agg #[d0, d1, d2, d3]) w' ⟨_, _, _, _, rfl, hrt⟩ (bt2 hB15 hb) ⟨hN.ns.below (Nat.le_refl _) (bt2 hW35 hb), hL5.below (Nat.le_refl _) hb, HH.out.ris, hS5⟩
      have r3 : w5.cell? ⟨w.heap.size, 3, none⟩ = some (.slice (some ⟨g, of, none⟩) 2 tcap) := (txcell (vs := #[.int .i64 o, .string x, .int .i64 m, .slice (some ⟨g, of, none⟩) 2 tcap, .slice bo 0 bcap]) hR5 3 _ rfl).1
      go_wp2_with (fail)
      clear r3
      have hDw6 : Below w5.heap.size w5 w5.drew := (Below.refl _ _).drew
      go_region_held3 (fun w' => w'.cell? ⟨w.heap.size, 3, none⟩ = some (.slice (some ⟨g, of, none⟩) 2 tcap) ∧ w'.cell? ⟨g, of, none⟩ = some d0 ∧ w'.cell? ⟨g, of + 1, none⟩ = some d1 ∧ w'.cell? ⟨g, of + 2, none⟩ = some d2 ∧ w'.cell? ⟨g, of + 3, none⟩ = some d3 ∧ w'.cell? ⟨w3.heap.size, 1, none⟩ = some (.slice no on nc)) (first | exact BX.out _ hDw6 | exact BX.out _ hEw6)
        (first | (go_at_call 13; refine (VC.out _ hDw6).mono ?_; rintro e w6 ⟨A, okA, rfl, hA, hBw6⟩; have hEw6 := bt2 hDw6 hBw6))
      have hB16 := bt2 hB15 hEw6
      have hR6 := hR5.keep hEw6
      have hN6 := hN5.keep hEw6
      have hW36 := bt2 hW35 hEw6
      have hL6 := hL5.below (Nat.le_refl _) hEw6
      clear VC BX hBw6 hDw6
      have BX : Hid (∀ w' : World, Below w6.heap.size w6 w' → w'.cell? ⟨w.heap.size, 3, none⟩ = some (.slice (some ⟨g, of, none⟩) 2 tcap) ∧ w'.cell? ⟨g, of + 4, none⟩ = some f0 ∧ w'.cell? ⟨g, of + 5, none⟩ = some f1 ∧ w'.cell? ⟨g, of + 6, none⟩ = some f2 ∧ w'.cell? ⟨g, of + 7, none⟩ = some f3 ∧ w'.cell? ⟨w3.heap.size, 1, none⟩ = some (.slice no on nc)) := fun w' hb => ⟨(txcell (vs := #[.int .i64 o, .string x, .int .i64 m, .slice (some ⟨g, of, none⟩) 2 tcap, .slice bo 0 bcap]) (hR6.keep hb) 3 _ rfl).1, ((bt2 hB16 hb).cell (p := ⟨g, of + 4, none⟩) hg).trans t0, ((bt2 hB16 hb).cell (p := ⟨g, of + 5, none⟩) hg).trans t1, ((bt2 hB16 hb).cell (p := ⟨g, of + 6, none⟩) hg).trans t2, ((bt2 hB16 hb).cell (p := ⟨g, of + 7, none⟩) hg).trans t3, (txcell (vs := nrA N.kd N.bd N.md no co on nc on oc) (hN6.keep hb) 1 _ rfl).1⟩
      have VC : Hid (∀ w' : World, Below w6.heap.size w6 w' → Calls Try.prog 13 #[.agg #[f0, f1, f2, f3], .slice no on nc, .slice (some ⟨gl, 0, none⟩) on on] w' (VlR (evT (evE N.ns L) t) w')) := fun w' hb => value_at N.ns L no (some ⟨gl, 0, none⟩) on nc on t HH.out.wt w (.agg #[f0, f1, f2, f3]) w' ⟨_, _, _, _, rfl, hru⟩ (bt2 hB16 hb) ⟨hN.ns.below (Nat.le_refl _) (bt2 hW36 hb), hL6.below (Nat.le_refl _) hb, HH.out.ris, hS5⟩
      go_wp2_with (fail)
      have hDw7 : Below w6.heap.size w6 w6.drew := (Below.refl _ _).drew
      go_region_held3 (fun w' => w'.cell? ⟨w.heap.size, 3, none⟩ = some (.slice (some ⟨g, of, none⟩) 2 tcap) ∧ w'.cell? ⟨g, of + 4, none⟩ = some f0 ∧ w'.cell? ⟨g, of + 5, none⟩ = some f1 ∧ w'.cell? ⟨g, of + 6, none⟩ = some f2 ∧ w'.cell? ⟨g, of + 7, none⟩ = some f3 ∧ w'.cell? ⟨w3.heap.size, 1, none⟩ = some (.slice no on nc)) (first | exact BX.out _ hDw7 | exact BX.out _ hEw7)
        (first | (go_at_call 13; refine (VC.out _ hDw7).mono ?_; rintro e w7 ⟨B, okB, rfl, hB, hBw7⟩; have hEw7 := bt2 hDw7 hBw7))
      have hB17 := bt2 hB16 hEw7
      have hR7 := hR6.keep hEw7
      have hN7 := hN6.keep hEw7
      have hW37 := bt2 hW36 hEw7
      have hL7 := hL6.below (Nat.le_refl _) hEw7
      have hZ7 := hN.cs.below (Nat.le_refl _) hW37
      clear VC BX hBw7 hDw7
      have WC := mkHid (worked_b co (some ⟨gl, 0, none⟩) on oc on on N.cs L 0 w7 hZ7 hL7 rfl hS5 (by decide))
      have HL := mkHid (HH.out.hld L (by rw [hL5.eqlen, hN.ns.eqlen]))
      have n2 : w7.cell? ⟨w3.heap.size, 2, none⟩ = some (.slice co on oc) := (txcell (vs := nrA N.kd N.bd N.md no co on nc on oc) hN7 2 _ rfl).1
      go_wp2_with (fail)
      refine WC.out.mono ?_
      rintro e w8 ⟨y, okY, rfl, hY, rfl⟩
      clear n2 WC hq
      cases okA with
      | false =>
        clear hA hB hY HL
        go_wp2_with (fail)
        go_ret
        exact ⟨rfl, hB17⟩
      | true =>
        cases okB with
        | false =>
          clear hA hB hY HL
          go_wp2_with (fail)
          go_ret
          exact ⟨rfl, hB17⟩
        | true =>
          cases okY with
          | false =>
            clear hA hB hY HL
            go_wp2_with (fail)
            go_ret
            exact ⟨rfl, hB17⟩
          | true =>
            obtain ⟨hA1, hA2, hA3⟩ := hA rfl
            obtain ⟨hB1', hB2', hB3'⟩ := hB rfl
            obtain ⟨hY1, hY2, hY3⟩ := hY rfl
            have HK : Hid (Hld o m A B N y) := by
              have k := HL.out
              rw [← hA1, ← hB1'] at k
              have e : y = dotz N.cs L := by omega
              rw [← e] at k
              exact k
            clear hA hB hY HL hA1 hB1' hY1
            have n3 : w7.cell? ⟨w3.heap.size, 3, none⟩ = some (.int .i64 N.bd) := (txcell (vs := nrA N.kd N.bd N.md no co on nc on oc) hN7 3 _ rfl).1
            by_cases b1 : 1125899906842624 ≤ N.bd
            · have d1 : decide (1125899906842624 ≤ N.bd) = true := decide_eq_true b1
              clear HK
              go_wp2_with (fail)
              go_ret
              exact ⟨rfl, hB17⟩
            · have d1 : decide (1125899906842624 ≤ N.bd) = false := decide_eq_false b1
              by_cases b2 : N.bd ≤ -1125899906842624
              · have d2 : decide (N.bd ≤ -1125899906842624) = true := decide_eq_true b2
                clear HK
                go_wp2_with (fail)
                go_ret
                exact ⟨rfl, hB17⟩
              · have d2 : decide (N.bd ≤ -1125899906842624) = false := decide_eq_false b2
                have n0 : w7.cell? ⟨w3.heap.size, 0, none⟩ = some (.int .i64 N.kd) := (txcell (vs := nrA N.kd N.bd N.md no co on nc on oc) hN7 0 _ rfl).1
                have ho : o = 15 := by
                  have hop := HH.out.op
                  have hk := K2.out
                  by_cases e13 : o = 13 ∨ o = 14
                  · have := (HK.out.eq e13).1; omega
                  by_cases e9 : o = 9
                  · have := (HK.out.le e9).1; omega
                  by_cases e10 : o = 10
                  · have := (HK.out.lt e10).1; omega
                  by_cases e11 : o = 11
                  · have := (HK.out.ge e11).1; omega
                  by_cases e12 : o = 12
                  · have := (HK.out.gt e12).1; omega
                  omega
                have hk1 : (N.kd == 1) = false := by rw [beq_eq_false_iff_ne]; have := K2.out; omega
                subst ho
                obtain ⟨-, hm1', hI⟩ := HK.out.cg rfl
                have hm2 : 1 ≤ m := (HH.out.md rfl).1
                have hm1 := mkHid hm1'
                have hm3 : 1 ≤ N.md := by rw [hm1']; exact hm2
                rw [← hm1'] at hI
                have hI : (y - N.bd).tmod N.md = 0 ↔ (A - B).tmod m = 0 := by rw [hm1'] at hI ⊢; exact hI
                clear hm1'
                have W1 : wrap64 (y - N.bd) = y - N.bd := by unfold wrap64; omega
                have W2 : wrap64 (A - B) = A - B := by unfold wrap64; omega
                have m1 : (m == 0) = false := beq_eq_false_iff_ne.2 (by omega)
                have m2 : (N.md == 0) = false := beq_eq_false_iff_ne.2 (by omega)
                have T1 := Chk.tmod_abs (y - N.bd) N.md (by omega)
                have T2 := Chk.tmod_abs (A - B) m (by omega)
                have hmm : N.md ≤ 9223372036854775807 := by rw [hm1.out]; exact him.2
                have hmm2 : m ≤ 9223372036854775807 := him.2
                have T3 : -9223372036854775808 ≤ (y - N.bd).tmod N.md ∧ (y - N.bd).tmod N.md ≤ 9223372036854775807 := by omega
                have T4 : -9223372036854775808 ≤ (A - B).tmod m ∧ (A - B).tmod m ≤ 9223372036854775807 := by omega
                have n4 : w7.cell? ⟨w3.heap.size, 4, none⟩ = some (.int .i64 N.md) := (txcell (vs := nrA N.kd N.bd N.md no co on nc on oc) hN7 4 _ rfl).1
                have r0 : w7.cell? ⟨w.heap.size, 0, none⟩ = some (.int .i64 15) := (txcell (vs := #[.int .i64 15, .string x, .int .i64 m, .slice (some ⟨g, of, none⟩) 2 tcap, .slice bo 0 bcap]) hR7 0 _ rfl).1
                have r2 : w7.cell? ⟨w.heap.size, 2, none⟩ = some (.int .i64 m) := (txcell (vs := #[.int .i64 15, .string x, .int .i64 m, .slice (some ⟨g, of, none⟩) 2 tcap, .slice bo 0 bcap]) hR7 2 _ rfl).1
                clear HK hmd2 T1 T2 hmm hmm2 b1 b2
                by_cases hc : (A - B).tmod m = 0
                · have z1 : ((y - N.bd).tmod N.md == 0) = true := beq_iff_eq.2 (hI.2 hc)
                  have z2 : ((A - B).tmod m == 0) = true := beq_iff_eq.2 hc
                  clear hI hc
                  go_wp2_with (fail)
                  go_ret
                  exact ⟨rfl, hB17⟩
                · have z1 : ((y - N.bd).tmod N.md == 0) = false := beq_eq_false_iff_ne.2 (fun k => hc (hI.1 k))
                  have z2 : ((A - B).tmod m == 0) = false := beq_eq_false_iff_ne.2 hc
                  clear hI hc
                  go_wp2_with (fail)
                  go_ret
                  exact ⟨rfl, hB17⟩
    · have hk2 : (N.kd == 2) = false := by rw [beq_eq_false_iff_ne]; exact k2
      have K2 := mkHid k2
      clear k2 hkd hmd
      go_wp2_with (fail)
      refine (SM.out _ on hfew (bt2 hB13 hB4)).mono ?_
      rintro e w5 ⟨gl, L, rfl, hL5, hS5, hB5⟩
      have hB15 := bt2 (bt2 hB13 hB4) hB5
      have hR5 := hR4.keep hB5
      have hN5 := hN4.keep hB5
      have hW35 := bt2 hB4 hB5
      clear r0 r3 SM
      generalize w3.alloc (.cells (nrA N.kd N.bd N.md no co on nc on oc) 26) = w4 at *
      have BX : Hid (∀ w' : World, Below w5.heap.size w5 w' → w'.cell? ⟨w.heap.size, 3, none⟩ = some (.slice (some ⟨g, of, none⟩) 2 tcap) ∧ w'.cell? ⟨g, of, none⟩ = some d0 ∧ w'.cell? ⟨g, of + 1, none⟩ = some d1 ∧ w'.cell? ⟨g, of + 2, none⟩ = some d2 ∧ w'.cell? ⟨g, of + 3, none⟩ = some d3 ∧ w'.cell? ⟨w3.heap.size, 1, none⟩ = some (.slice no on nc)) := fun w' hb => ⟨(txcell (vs := #[.int .i64 o, .string x, .int .i64 m, .slice (some ⟨g, of, none⟩) 2 tcap, .slice bo 0 bcap]) (hR5.keep hb) 3 _ rfl).1, ((bt2 hB15 hb).cell (p := ⟨g, of, none⟩) hg).trans q0, ((bt2 hB15 hb).cell (p := ⟨g, of + 1, none⟩) hg).trans q1, ((bt2 hB15 hb).cell (p := ⟨g, of + 2, none⟩) hg).trans q2, ((bt2 hB15 hb).cell (p := ⟨g, of + 3, none⟩) hg).trans q3, (txcell (vs := nrA N.kd N.bd N.md no co on nc on oc) (hN5.keep hb) 1 _ rfl).1⟩
      have VC : Hid (∀ w' : World, Below w5.heap.size w5 w' → Calls Try.prog 13 #[.agg #[d0, d1, d2, d3], .slice no on nc, .slice (some ⟨gl, 0, none⟩) on on] w' (VlR (evT (evE N.ns L) s) w')) := fun w' hb => value_at N.ns L no (some ⟨gl, 0, none⟩) on nc on s HH.out.ws w (.agg #[d0, d1, d2, d3]) w' ⟨_, _, _, _, rfl, hrt⟩ (bt2 hB15 hb) ⟨hN.ns.below (Nat.le_refl _) (bt2 hW35 hb), hL5.below (Nat.le_refl _) hb, HH.out.ris, hS5⟩
      have r3 : w5.cell? ⟨w.heap.size, 3, none⟩ = some (.slice (some ⟨g, of, none⟩) 2 tcap) := (txcell (vs := #[.int .i64 o, .string x, .int .i64 m, .slice (some ⟨g, of, none⟩) 2 tcap, .slice bo 0 bcap]) hR5 3 _ rfl).1
      go_wp2_with (fail)
      clear r3
      have hDw6 : Below w5.heap.size w5 w5.drew := (Below.refl _ _).drew
      go_region_held3 (fun w' => w'.cell? ⟨w.heap.size, 3, none⟩ = some (.slice (some ⟨g, of, none⟩) 2 tcap) ∧ w'.cell? ⟨g, of, none⟩ = some d0 ∧ w'.cell? ⟨g, of + 1, none⟩ = some d1 ∧ w'.cell? ⟨g, of + 2, none⟩ = some d2 ∧ w'.cell? ⟨g, of + 3, none⟩ = some d3 ∧ w'.cell? ⟨w3.heap.size, 1, none⟩ = some (.slice no on nc)) (first | exact BX.out _ hDw6 | exact BX.out _ hEw6)
        (first | (go_at_call 13; refine (VC.out _ hDw6).mono ?_; rintro e w6 ⟨A, okA, rfl, hA, hBw6⟩; have hEw6 := bt2 hDw6 hBw6))
      have hB16 := bt2 hB15 hEw6
      have hR6 := hR5.keep hEw6
      have hN6 := hN5.keep hEw6
      have hW36 := bt2 hW35 hEw6
      have hL6 := hL5.below (Nat.le_refl _) hEw6
      clear VC BX hBw6 hDw6
      have BX : Hid (∀ w' : World, Below w6.heap.size w6 w' → w'.cell? ⟨w.heap.size, 3, none⟩ = some (.slice (some ⟨g, of, none⟩) 2 tcap) ∧ w'.cell? ⟨g, of + 4, none⟩ = some f0 ∧ w'.cell? ⟨g, of + 5, none⟩ = some f1 ∧ w'.cell? ⟨g, of + 6, none⟩ = some f2 ∧ w'.cell? ⟨g, of + 7, none⟩ = some f3 ∧ w'.cell? ⟨w3.heap.size, 1, none⟩ = some (.slice no on nc)) := fun w' hb => ⟨(txcell (vs := #[.int .i64 o, .string x, .int .i64 m, .slice (some ⟨g, of, none⟩) 2 tcap, .slice bo 0 bcap]) (hR6.keep hb) 3 _ rfl).1, ((bt2 hB16 hb).cell (p := ⟨g, of + 4, none⟩) hg).trans t0, ((bt2 hB16 hb).cell (p := ⟨g, of + 5, none⟩) hg).trans t1, ((bt2 hB16 hb).cell (p := ⟨g, of + 6, none⟩) hg).trans t2, ((bt2 hB16 hb).cell (p := ⟨g, of + 7, none⟩) hg).trans t3, (txcell (vs := nrA N.kd N.bd N.md no co on nc on oc) (hN6.keep hb) 1 _ rfl).1⟩
      have VC : Hid (∀ w' : World, Below w6.heap.size w6 w' → Calls Try.prog 13 #[.agg #[f0, f1, f2, f3], .slice no on nc, .slice (some ⟨gl, 0, none⟩) on on] w' (VlR (evT (evE N.ns L) t) w')) := fun w' hb => value_at N.ns L no (some ⟨gl, 0, none⟩) on nc on t HH.out.wt w (.agg #[f0, f1, f2, f3]) w' ⟨_, _, _, _, rfl, hru⟩ (bt2 hB16 hb) ⟨hN.ns.below (Nat.le_refl _) (bt2 hW36 hb), hL6.below (Nat.le_refl _) hb, HH.out.ris, hS5⟩
      go_wp2_with (fail)
      have hDw7 : Below w6.heap.size w6 w6.drew := (Below.refl _ _).drew
      go_region_held3 (fun w' => w'.cell? ⟨w.heap.size, 3, none⟩ = some (.slice (some ⟨g, of, none⟩) 2 tcap) ∧ w'.cell? ⟨g, of + 4, none⟩ = some f0 ∧ w'.cell? ⟨g, of + 5, none⟩ = some f1 ∧ w'.cell? ⟨g, of + 6, none⟩ = some f2 ∧ w'.cell? ⟨g, of + 7, none⟩ = some f3 ∧ w'.cell? ⟨w3.heap.size, 1, none⟩ = some (.slice no on nc)) (first | exact BX.out _ hDw7 | exact BX.out _ hEw7)
        (first | (go_at_call 13; refine (VC.out _ hDw7).mono ?_; rintro e w7 ⟨B, okB, rfl, hB, hBw7⟩; have hEw7 := bt2 hDw7 hBw7))
      have hB17 := bt2 hB16 hEw7
      have hR7 := hR6.keep hEw7
      have hN7 := hN6.keep hEw7
      have hW37 := bt2 hW36 hEw7
      have hL7 := hL6.below (Nat.le_refl _) hEw7
      have hZ7 := hN.cs.below (Nat.le_refl _) hW37
      clear VC BX hBw7 hDw7
      have WC := mkHid (worked_b co (some ⟨gl, 0, none⟩) on oc on on N.cs L 0 w7 hZ7 hL7 rfl hS5 (by decide))
      have HL := mkHid (HH.out.hld L (by rw [hL5.eqlen, hN.ns.eqlen]))
      have n2 : w7.cell? ⟨w3.heap.size, 2, none⟩ = some (.slice co on oc) := (txcell (vs := nrA N.kd N.bd N.md no co on nc on oc) hN7 2 _ rfl).1
      go_wp2_with (fail)
      refine WC.out.mono ?_
      rintro e w8 ⟨y, okY, rfl, hY, rfl⟩
      clear n2 WC hq
      cases okA with
      | false =>
        clear hA hB hY HL
        go_wp2_with (fail)
        go_ret
        exact ⟨rfl, hB17⟩
      | true =>
        cases okB with
        | false =>
          clear hA hB hY HL
          go_wp2_with (fail)
          go_ret
          exact ⟨rfl, hB17⟩
        | true =>
          cases okY with
          | false =>
            clear hA hB hY HL
            go_wp2_with (fail)
            go_ret
            exact ⟨rfl, hB17⟩
          | true =>
            obtain ⟨hA1, hA2, hA3⟩ := hA rfl
            obtain ⟨hB1', hB2', hB3'⟩ := hB rfl
            obtain ⟨hY1, hY2, hY3⟩ := hY rfl
            have HK : Hid (Hld o m A B N y) := by
              have k := HL.out
              rw [← hA1, ← hB1'] at k
              have e : y = dotz N.cs L := by omega
              rw [← e] at k
              exact k
            clear hA hB hY HL hA1 hB1' hY1
            have n3 : w7.cell? ⟨w3.heap.size, 3, none⟩ = some (.int .i64 N.bd) := (txcell (vs := nrA N.kd N.bd N.md no co on nc on oc) hN7 3 _ rfl).1
            by_cases b1 : 1125899906842624 ≤ N.bd
            · have d1 : decide (1125899906842624 ≤ N.bd) = true := decide_eq_true b1
              clear HK
              go_wp2_with (fail)
              go_ret
              exact ⟨rfl, hB17⟩
            · have d1 : decide (1125899906842624 ≤ N.bd) = false := decide_eq_false b1
              by_cases b2 : N.bd ≤ -1125899906842624
              · have d2 : decide (N.bd ≤ -1125899906842624) = true := decide_eq_true b2
                clear HK
                go_wp2_with (fail)
                go_ret
                exact ⟨rfl, hB17⟩
              · have d2 : decide (N.bd ≤ -1125899906842624) = false := decide_eq_false b2
                have n0 : w7.cell? ⟨w3.heap.size, 0, none⟩ = some (.int .i64 N.kd) := (txcell (vs := nrA N.kd N.bd N.md no co on nc on oc) hN7 0 _ rfl).1
                have hop := HH.out.op
                have h15 : o ≠ 15 := fun e => K2.out (HK.out.cg e).1
                rcases (show o = 9 ∨ o = 10 ∨ o = 11 ∨ o = 12 ∨ o = 13 ∨ o = 14 by omega) with rfl | rfl | rfl | rfl | rfl | rfl
                · obtain ⟨hk, hI⟩ := HK.out.le rfl
                  have hk1 : (N.kd == 1) = false := by rw [hk]; rfl
                  clear hk HK hop h15 b1 b2
                  have r0 : w7.cell? ⟨w.heap.size, 0, none⟩ = some (.int .i64 9) := (txcell (vs := #[.int .i64 9, .string x, .int .i64 m, .slice (some ⟨g, of, none⟩) 2 tcap, .slice bo 0 bcap]) hR7 0 _ rfl).1
                  by_cases hc : A ≤ B
                  · have z1 : decide (y ≤ N.bd) = true := decide_eq_true (hI.2 hc)
                    have z2 : decide (A ≤ B) = true := decide_eq_true hc
                    clear hI hc
                    go_wp2_with (fail)
                    go_ret
                    exact ⟨rfl, hB17⟩
                  · have z1 : decide (y ≤ N.bd) = false := decide_eq_false (fun k => hc (hI.1 k))
                    have z2 : decide (A ≤ B) = false := decide_eq_false hc
                    clear hI hc
                    go_wp2_with (fail)
                    go_ret
                    exact ⟨rfl, hB17⟩
                · obtain ⟨hk, hI⟩ := HK.out.lt rfl
                  have hk1 : (N.kd == 1) = false := by rw [hk]; rfl
                  clear hk HK hop h15 b1 b2
                  have r0 : w7.cell? ⟨w.heap.size, 0, none⟩ = some (.int .i64 10) := (txcell (vs := #[.int .i64 10, .string x, .int .i64 m, .slice (some ⟨g, of, none⟩) 2 tcap, .slice bo 0 bcap]) hR7 0 _ rfl).1
                  by_cases hc : A < B
                  · have z1 : decide (y ≤ N.bd) = true := decide_eq_true (hI.2 hc)
                    have z2 : decide (A < B) = true := decide_eq_true hc
                    clear hI hc
                    go_wp2_with (fail)
                    go_ret
                    exact ⟨rfl, hB17⟩
                  · have z1 : decide (y ≤ N.bd) = false := decide_eq_false (fun k => hc (hI.1 k))
                    have z2 : decide (A < B) = false := decide_eq_false hc
                    clear hI hc
                    go_wp2_with (fail)
                    go_ret
                    exact ⟨rfl, hB17⟩
                · obtain ⟨hk, hI⟩ := HK.out.ge rfl
                  have hk1 : (N.kd == 1) = false := by rw [hk]; rfl
                  clear hk HK hop h15 b1 b2
                  have r0 : w7.cell? ⟨w.heap.size, 0, none⟩ = some (.int .i64 11) := (txcell (vs := #[.int .i64 11, .string x, .int .i64 m, .slice (some ⟨g, of, none⟩) 2 tcap, .slice bo 0 bcap]) hR7 0 _ rfl).1
                  by_cases hc : B ≤ A
                  · have z1 : decide (y ≤ N.bd) = true := decide_eq_true (hI.2 hc)
                    have z2 : decide (B ≤ A) = true := decide_eq_true hc
                    clear hI hc
                    go_wp2_with (fail)
                    go_ret
                    exact ⟨rfl, hB17⟩
                  · have z1 : decide (y ≤ N.bd) = false := decide_eq_false (fun k => hc (hI.1 k))
                    have z2 : decide (B ≤ A) = false := decide_eq_false hc
                    clear hI hc
                    go_wp2_with (fail)
                    go_ret
                    exact ⟨rfl, hB17⟩
                · obtain ⟨hk, hI⟩ := HK.out.gt rfl
                  have hk1 : (N.kd == 1) = false := by rw [hk]; rfl
                  clear hk HK hop h15 b1 b2
                  have r0 : w7.cell? ⟨w.heap.size, 0, none⟩ = some (.int .i64 12) := (txcell (vs := #[.int .i64 12, .string x, .int .i64 m, .slice (some ⟨g, of, none⟩) 2 tcap, .slice bo 0 bcap]) hR7 0 _ rfl).1
                  by_cases hc : B < A
                  · have z1 : decide (y ≤ N.bd) = true := decide_eq_true (hI.2 hc)
                    have z2 : decide (B < A) = true := decide_eq_true hc
                    clear hI hc
                    go_wp2_with (fail)
                    go_ret
                    exact ⟨rfl, hB17⟩
                  · have z1 : decide (y ≤ N.bd) = false := decide_eq_false (fun k => hc (hI.1 k))
                    have z2 : decide (B < A) = false := decide_eq_false hc
                    clear hI hc
                    go_wp2_with (fail)
                    go_ret
                    exact ⟨rfl, hB17⟩
                · obtain ⟨hk, hI⟩ := HK.out.eq (.inl rfl)
                  have hk1 : (N.kd == 1) = true := by rw [hk]; rfl
                  clear hk HK hop h15 b1 b2
                  have r0 : w7.cell? ⟨w.heap.size, 0, none⟩ = some (.int .i64 13) := (txcell (vs := #[.int .i64 13, .string x, .int .i64 m, .slice (some ⟨g, of, none⟩) 2 tcap, .slice bo 0 bcap]) hR7 0 _ rfl).1
                  by_cases hc : A = B
                  · have z1 : (y == N.bd) = true := beq_iff_eq.2 (hI.2 hc)
                    have z2 : (A == B) = true := beq_iff_eq.2 hc
                    clear hI hc
                    go_wp2_with (fail)
                    go_ret
                    exact ⟨rfl, hB17⟩
                  · have z1 : (y == N.bd) = false := beq_eq_false_iff_ne.2 (fun k => hc (hI.1 k))
                    have z2 : (A == B) = false := beq_eq_false_iff_ne.2 hc
                    clear hI hc
                    go_wp2_with (fail)
                    go_ret
                    exact ⟨rfl, hB17⟩
                · obtain ⟨hk, hI⟩ := HK.out.eq (.inr rfl)
                  have hk1 : (N.kd == 1) = true := by rw [hk]; rfl
                  clear hk HK hop h15 b1 b2
                  have r0 : w7.cell? ⟨w.heap.size, 0, none⟩ = some (.int .i64 14) := (txcell (vs := #[.int .i64 14, .string x, .int .i64 m, .slice (some ⟨g, of, none⟩) 2 tcap, .slice bo 0 bcap]) hR7 0 _ rfl).1
                  by_cases hc : A = B
                  · have z1 : (y == N.bd) = true := beq_iff_eq.2 (hI.2 hc)
                    have z2 : (A == B) = true := beq_iff_eq.2 hc
                    clear hI hc
                    go_wp2_with (fail)
                    go_ret
                    exact ⟨rfl, hB17⟩
                  · have z1 : (y == N.bd) = false := beq_eq_false_iff_ne.2 (fun k => hc (hI.1 k))
                    have z2 : (A == B) = false := beq_eq_false_iff_ne.2 hc
                    clear hI hc
                    go_wp2_with (fail)
                    go_ret
                    exact ⟨rfl, hB17⟩
end Go.Proofs.Ytiapkblebbcfbaa.Gl
