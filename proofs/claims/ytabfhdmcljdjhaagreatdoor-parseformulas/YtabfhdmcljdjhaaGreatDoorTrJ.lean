/- The document's Same. -/
import Derived.Test.YtabfhdmcljdjhaaGreatDoorTrI
namespace Go.Proofs.YtabfhdmcljdjhaaGreatDoor.Gl
open Go.RowKit
set_option linter.unusedVariables false

theorem twelve_kept {w w' : World} {B1 B2 g g' : Nat} {o1 o2 o3 o4 o5 o6 oE o7 o8 o9 oA oF : Nat} {x1 x2 x3 x4 x5 x6 xE x7 x8 x9 xA xF : Value} (hb : Below w.heap.size w w') (h1 : B1 < w.heap.size) (h2 : B2 < w.heap.size) (hg : g < w.heap.size) (hg' : g' < w.heap.size)
    (h : w.cell? ⟨B1, o1, none⟩ = some x1 ∧ w.cell? ⟨B2, o2, none⟩ = some x2 ∧ w.cell? ⟨g, o3, none⟩ = some x3 ∧ w.cell? ⟨g, o4, none⟩ = some x4 ∧ w.cell? ⟨g, o5, none⟩ = some x5 ∧ w.cell? ⟨g, o6, none⟩ = some x6 ∧ w.cell? ⟨g, oE, none⟩ = some xE ∧ w.cell? ⟨g', o7, none⟩ = some x7 ∧ w.cell? ⟨g', o8, none⟩ = some x8 ∧ w.cell? ⟨g', o9, none⟩ = some x9 ∧ w.cell? ⟨g', oA, none⟩ = some xA ∧ w.cell? ⟨g', oF, none⟩ = some xF) :
    w'.cell? ⟨B1, o1, none⟩ = some x1 ∧ w'.cell? ⟨B2, o2, none⟩ = some x2 ∧ w'.cell? ⟨g, o3, none⟩ = some x3 ∧ w'.cell? ⟨g, o4, none⟩ = some x4 ∧ w'.cell? ⟨g, o5, none⟩ = some x5 ∧ w'.cell? ⟨g, o6, none⟩ = some x6 ∧ w'.cell? ⟨g, oE, none⟩ = some xE ∧ w'.cell? ⟨g', o7, none⟩ = some x7 ∧ w'.cell? ⟨g', o8, none⟩ = some x8 ∧ w'.cell? ⟨g', o9, none⟩ = some x9 ∧ w'.cell? ⟨g', oA, none⟩ = some xA ∧ w'.cell? ⟨g', oF, none⟩ = some xF := by
  obtain ⟨hc, _⟩ := bcell hb
  obtain ⟨a1, a2, a3, a4, a5, a6, aE, a7, a8, a9, aA, aF⟩ := h
  exact ⟨(hc _ _ h1).trans a1, (hc _ _ h2).trans a2, (hc _ _ hg).trans a3, (hc _ _ hg).trans a4, (hc _ _ hg).trans a5, (hc _ _ hg).trans a6, (hc _ _ hg).trans aE, (hc _ _ hg').trans a7, (hc _ _ hg').trans a8, (hc _ _ hg').trans a9, (hc _ _ hg').trans aA, (hc _ _ hg').trans aF⟩
set_option maxHeartbeats 8000000 in
set_option maxRecDepth 100000 in
theorem rsameF_at (W : World) : ∀ f u v v' w, FmV W f v → FmV W u v' → Below W.heap.size W w →
    Calls Tryz.prog 10 #[v, v'] w fun e w' => e = .returned (.bool (eqB f u)) ∧ Below w.heap.size w w' := by
  refine Fm.ind (fun o x m t a ih u v v' w hv hv' hW => ?_)
  cases u with
  | mk o' x' m' t' a' =>
  obtain ⟨c0, c1, c2, c3, c4, rfl, hr⟩ := hv
  rw [RdF] at hr
  obtain ⟨rfl, rfl, rfl, hbd, ⟨bo, bap, rfl, hbc, hbz, hT⟩, ao, cap, rfl, hlc, hcz, hL⟩ := hr
  obtain ⟨c0, c1, c2, c3, c4, rfl, hr⟩ := hv'
  rw [RdF] at hr
  obtain ⟨rfl, rfl, rfl, hbd', ⟨bo', bap', rfl, hbc', hbz', hT'⟩, ao', cap', rfl, hlc', hcz', hL'⟩ := hr
  have IH : Hid (∀ f ∈ a, ∀ u v v' w, FmV W f v → FmV W u v' → Below W.heap.size W w → Calls Tryz.prog 10 #[v, v'] w fun e w' => e = .returned (.bool (eqB f u)) ∧ Below w.heap.size w w') := ih
  clear ih
  have hWs := hW.size
  by_cases h1 : o = o'
  rotate_left
  · have k1 : (o == o') = false := by simpa using h1
    have HE : Hid (eqB (Fm.mk o x m t a) (.mk o' x' m' t' a') = false) := eqB_no (fun e => h1 (by cases e; rfl))
    clear IH
    go_enter Tryz.func10, Tryz.ntmps10
    go_wp2
    go_ret
    exact ⟨retb HE.out.symm, bta (bta0 _ _) _⟩
  by_cases h3 : x = x'
  rotate_left
  · have k3 : (x.toList == x'.toList) = false := by
      cases hb : (x.toList == x'.toList) with
      | false => rfl
      | true => exact absurd (toList_inj (by simpa using hb)) h3
    have HE : Hid (eqB (Fm.mk o x m t a) (.mk o' x' m' t' a') = false) := eqB_no (fun e => h3 (by cases e; rfl))
    subst h1
    clear IH
    go_enter Tryz.func10, Tryz.ntmps10
    go_wp2
    go_ret
    exact ⟨retb HE.out.symm, bta (bta0 _ _) _⟩
  by_cases h2 : m = m'
  rotate_left
  · have k2 : (m == m') = false := by simpa using h2
    have HE : Hid (eqB (Fm.mk o x m t a) (.mk o' x' m' t' a') = false) := eqB_no (fun e => h2 (by cases e; rfl))
    have k3 : (x.toList == x.toList) = true := by simp
    subst h1; subst h3
    clear IH
    go_enter Tryz.func10, Tryz.ntmps10
    go_wp2
    go_ret
    exact ⟨retb HE.out.symm, bta (bta0 _ _) _⟩
  by_cases h4 : t.length = t'.length
  rotate_left
  · have k4 : ((t.length : Int) == (t'.length : Int)) = false := by simp; omega
    have HE : Hid (eqB (Fm.mk o x m t a) (.mk o' x' m' t' a') = false) := eqB_no (fun e => h4 (by cases e; rfl))
    have k3 : (x.toList == x.toList) = true := by simp
    subst h1; subst h3; subst h2
    clear IH
    go_enter Tryz.func10, Tryz.ntmps10
    go_wp2
    go_ret
    exact ⟨retb HE.out.symm, bta (bta0 _ _) _⟩
  by_cases h5 : a.length = a'.length
  rotate_left
  · have k5 : ((a.length : Int) == (a'.length : Int)) = false := by simp; omega
    have HE : Hid (eqB (Fm.mk o x m t a) (.mk o' x' m' t' a') = false) := eqB_no (fun e => h5 (by cases e; rfl))
    have k3 : (x.toList == x.toList) = true := by simp
    subst h1; subst h3; subst h2
    generalize t.length = lt at *
    subst h4
    clear IH
    go_enter Tryz.func10, Tryz.ntmps10
    go_wp2
    go_ret
    exact ⟨retb HE.out.symm, bta (bta0 _ _) _⟩
  subst h1; subst h2; subst h3
  have k3 : (x.toList == x.toList) = true := by simp
  obtain ⟨la, hm⟩ : ∃ la, a.length = la := ⟨_, rfl⟩
  have hm' : a'.length = la := by omega
  obtain ⟨lt, hn⟩ : ∃ lt, t.length = lt := ⟨_, rfl⟩
  have hn' : t'.length = lt := by omega
  rw [hm] at hlc
  rw [hm'] at hlc'
  rw [hn] at hbc
  rw [hn'] at hbc'
  have HY : Hid ((∀ j (ha : j < t.length) (hb : j < t'.length), t[j] = t'[j]) → (∀ j (ha : j < a.length) (hb : j < a'.length), a[j] = a'[j]) → eqB (Fm.mk o x m t a) (.mk o x m t' a') = true) := fun h h' => eqB_yes (by rw [list_ext (by omega) h, list_ext (by omega) h'])
  have HNoT : Hid (∀ j (ha : j < t.length) (hb : j < t'.length), ¬ t[j] = t'[j] → eqB (Fm.mk o x m t a) (.mk o x m t' a') = false) := fun j ha hb h => eqB_no (fun e => h (by cases e; rfl))
  have HNoA : Hid (∀ j (ha : j < a.length) (hb : j < a'.length), ¬ a[j] = a'[j] → eqB (Fm.mk o x m t a) (.mk o x m t' a') = false) := fun j ha hb h => eqB_no (fun e => h (by cases e; rfl))
  generalize eqB (Fm.mk o x m t a) (.mk o x m t' a') = q at *
  obtain ⟨t1, t2⟩ := two_boxes w #[.int .i64 o, .string x, .int .i64 m, .slice bo lt bap, .slice ao la cap] #[.int .i64 o, .string x, .int .i64 m, .slice bo' lt bap', .slice ao' la cap'] 26 26
  have hb1 : Below w.heap.size w ((w.alloc (.cells #[.int .i64 o, .string x, .int .i64 m, .slice bo lt bap, .slice ao la cap] 26)).alloc (.cells #[.int .i64 o, .string x, .int .i64 m, .slice bo' lt bap', .slice ao' la cap'] 26)) := bta (bta0 _ _) _
  have hs2 : ((w.alloc (.cells #[.int .i64 o, .string x, .int .i64 m, .slice bo lt bap, .slice ao la cap] 26)).alloc (.cells #[.int .i64 o, .string x, .int .i64 m, .slice bo' lt bap', .slice ao' la cap'] 26)).heap.size = w.heap.size + 2 := by simp
  generalize hW2 : (w.alloc (.cells #[.int .i64 o, .string x, .int .i64 m, .slice bo lt bap, .slice ao la cap] 26)).alloc (.cells #[.int .i64 o, .string x, .int .i64 m, .slice bo' lt bap', .slice ao' la cap'] 26) = W2 at t1 t2 hb1 hs2
  rw [hm, hm', hn, hn']
  go_enter Tryz.func10, Tryz.ntmps10
  go_wp2
  clear hW2
  go_loopw [5] (fun i wr => ∃ k : Nat, k ≤ lt ∧ i = .int .i64 k ∧ Below W2.heap.size W2 wr ∧ Hid (∀ j (ha : j < t.length) (hb : j < t'.length), j < k → t[j] = t'[j])) (fun i _ => lt - (intOf i).toNat)
  case atStart => exact ⟨0, Nat.zero_le _, rfl, Below.refl _ _, fun j _ _ h => by omega⟩
  case round =>
    obtain ⟨k, hk, rfl, hBr, HA⟩ := hrel
    have b1 := (hBr.cell (p := ⟨w.heap.size, 3, none⟩) (by simp; omega)).trans (t1 3)
    have b2 := (hBr.cell (p := ⟨w.heap.size + 1, 3, none⟩) (by simp; omega)).trans (t2 3)
    have e1 := (hBr.cell (p := ⟨w.heap.size, 4, none⟩) (by simp; omega)).trans (t1 4)
    have hbw := bt2 hb1 hBr
    have hWr : Below W.heap.size W wr := hW.trans (hbw.mono hWs)
    by_cases hlt : k < lt
    · have hka : k < t.length := by omega
      have hkb : k < t'.length := by omega
      obtain ⟨g, of, d0, d1, d2, d3, rfl, hg, q0, q1, q2, q3, hrd⟩ := hT.get k hka
      obtain ⟨g', of', d0', d1', d2', d3', rfl, hg', q0', q1', q2', q3', hrd'⟩ := hT'.get k hkb
      rw [Nat.zero_add] at q0 q1 q2 q3 q0' q1' q2' q3'
      have RC : Hid (∀ w, Below W.heap.size W w → Calls Tryz.prog 21 #[.agg #[d0, d1, d2, d3], .agg #[d0', d1', d2', d3']] w fun e w' => e = .returned (.bool (eqB t[k] t'[k])) ∧ Below w.heap.size w w') := fun w h => rsameT_at W t[k] t'[k] _ _ w ⟨_, _, _, _, rfl, hrd⟩ ⟨_, _, _, _, rfl, hrd'⟩ h
      have p0 := (hWr.cell (p := ⟨g, of + k * 4, none⟩) hg).trans q0
      have p0' := (hWr.cell (p := ⟨g', of' + k * 4, none⟩) hg').trans q0'
      have p1 := (hWr.cell (p := ⟨g, of + k * 4 + 1, none⟩) hg).trans q1
      have p1' := (hWr.cell (p := ⟨g', of' + k * 4 + 1, none⟩) hg').trans q1'
      have p2 := (hWr.cell (p := ⟨g, of + k * 4 + 2, none⟩) hg).trans q2
      have p2' := (hWr.cell (p := ⟨g', of' + k * 4 + 2, none⟩) hg').trans q2'
      have p3 := (hWr.cell (p := ⟨g, of + k * 4 + 3, none⟩) hg).trans q3
      have p3' := (hWr.cell (p := ⟨g', of' + k * 4 + 3, none⟩) hg').trans q3'
      have s0 := (And.intro b1 (And.intro b2 (And.intro p0 (And.intro p1 (And.intro p2 (And.intro p3 (And.intro p0' (And.intro p1' (And.intro p2' p3')))))))))
      have hgr : g < wr.heap.size := Nat.lt_of_lt_of_le hg hWr.size
      have hgr' : g' < wr.heap.size := Nat.lt_of_lt_of_le hg' hWr.size
      have hwr : w.heap.size + 1 < wr.heap.size := by have := hBr.size; omega
      have i3 : (0 : Int) ≤ (k : Int) := by omega
      have i4 : (k : Int) < (lt : Int) := by omega
      have HT : Hid (eqB t[k] t'[k] = true → ∀ j (ha : j < t.length) (hb : j < t'.length), j < k + 1 → t[j] = t'[j]) := fun h j ha hb hj => by
        rcases Nat.lt_succ_iff_lt_or_eq.1 hj with hj | rfl
        · exact HA.out j ha hb hj
        · exact (eqB_iff _ _).1 h
      have HF : Hid (eqB t[k] t'[k] = false → q = false) := fun h => HNoT.out k hka hkb (fun e => by rw [eqB_yes e] at h; cases h)
      generalize eqB t[k] t'[k] = r at *
      clear IH HA HNoT HNoA HY q0 q1 q2 q3 q0' q1' q2' q3' hrd hrd' b1 b2 e1 p0 p0' p1 p1' p2 p2' p3 p3'
      cases r with
      | true =>
        have HT' := HT.out rfl
        have HT2 : Hid _ := HT'
        clear HT HF HT'
        go_wp2
        go_region_held3 (fun w' => w'.cell? ⟨w.heap.size, 3, none⟩ = some (.slice (some ⟨g, of, none⟩) lt bap) ∧ w'.cell? ⟨w.heap.size + 1, 3, none⟩ = some (.slice (some ⟨g', of', none⟩) lt bap') ∧ w'.cell? ⟨g, of + k * 4, none⟩ = some d0 ∧ w'.cell? ⟨g, of + k * 4 + 1, none⟩ = some d1 ∧ w'.cell? ⟨g, of + k * 4 + 2, none⟩ = some d2 ∧ w'.cell? ⟨g, of + k * 4 + 3, none⟩ = some d3 ∧ w'.cell? ⟨g', of' + k * 4, none⟩ = some d0' ∧ w'.cell? ⟨g', of' + k * 4 + 1, none⟩ = some d1' ∧ w'.cell? ⟨g', of' + k * 4 + 2, none⟩ = some d2' ∧ w'.cell? ⟨g', of' + k * 4 + 3, none⟩ = some d3') (first | exact s0 | exact s2) ((go_at_call 21; refine (RC.out _ hWr.drew).mono ?_; rintro e w2 ⟨rfl, hB2⟩; have hB2' : Below wr.heap.size wr w2 := (Below.refl _ _).drew.trans hB2; have s2 := ten_kept hB2' (by omega) (by omega) hgr hgr' s0))
        go_wp2
        go_roundw
        case rel => exact ⟨k + 1, by omega, by go_num, bt2 hBr hB2', HT2⟩
        case measure => simp [intOf]; omega
      | false =>
        have HF2 : Hid (q = false) := HF.out rfl
        clear HT HF
        go_wp2
        go_region_held3 (fun w' => w'.cell? ⟨w.heap.size, 3, none⟩ = some (.slice (some ⟨g, of, none⟩) lt bap) ∧ w'.cell? ⟨w.heap.size + 1, 3, none⟩ = some (.slice (some ⟨g', of', none⟩) lt bap') ∧ w'.cell? ⟨g, of + k * 4, none⟩ = some d0 ∧ w'.cell? ⟨g, of + k * 4 + 1, none⟩ = some d1 ∧ w'.cell? ⟨g, of + k * 4 + 2, none⟩ = some d2 ∧ w'.cell? ⟨g, of + k * 4 + 3, none⟩ = some d3 ∧ w'.cell? ⟨g', of' + k * 4, none⟩ = some d0' ∧ w'.cell? ⟨g', of' + k * 4 + 1, none⟩ = some d1' ∧ w'.cell? ⟨g', of' + k * 4 + 2, none⟩ = some d2' ∧ w'.cell? ⟨g', of' + k * 4 + 3, none⟩ = some d3') (first | exact s0 | exact s2) ((go_at_call 21; refine (RC.out _ hWr.drew).mono ?_; rintro e w2 ⟨rfl, hB2⟩; have hB2' : Below wr.heap.size wr w2 := (Below.refl _ _).drew.trans hB2; have s2 := ten_kept hB2' (by omega) (by omega) hgr hgr' s0))
        go_wp2
        go_ret
        exact ⟨retb HF2.out.symm, bt2 hbw hB2'⟩
    · have hlt' : decide (k < lt) = false := decide_eq_false hlt
      have HTall : Hid (∀ j (ha : j < t.length) (hb : j < t'.length), t[j] = t'[j]) := fun j ha hb => HA.out j ha hb (by omega)
      have hBx := hBr
      clear HA
      go_wp2
      obtain ⟨wv, hwv⟩ : ∃ wv, wv = wr := ⟨_, rfl⟩
      subst hwv
      go_loopw [6] (fun i wr => ∃ k : Nat, k ≤ la ∧ i = .int .i64 k ∧ Below W2.heap.size W2 wr ∧ Hid (∀ j (ha : j < a.length) (hb : j < a'.length), j < k → a[j] = a'[j])) (fun i _ => la - (intOf i).toNat)
      case atStart => exact ⟨0, Nat.zero_le _, rfl, hBx, fun j _ _ h => by omega⟩
      case round =>
        obtain ⟨k, hk, rfl, hBr, HA⟩ := hrel
        have b1 := (hBr.cell (p := ⟨w.heap.size, 4, none⟩) (by simp; omega)).trans (t1 4)
        have b2 := (hBr.cell (p := ⟨w.heap.size + 1, 4, none⟩) (by simp; omega)).trans (t2 4)
        have e1 := (hBr.cell (p := ⟨w.heap.size, 4, none⟩) (by simp; omega)).trans (t1 4)
        have hbw := bt2 hb1 hBr
        have hWr : Below W.heap.size W wr := hW.trans (hbw.mono hWs)
        by_cases hlt : k < la
        · have hka : k < a.length := by omega
          have hkb : k < a'.length := by omega
          obtain ⟨g, of, d0, d1, d2, d3, d4, rfl, hg, q0, q1, q2, q3, q4, hrd⟩ := hL.get k hka
          obtain ⟨g', of', d0', d1', d2', d3', d4', rfl, hg', q0', q1', q2', q3', q4', hrd'⟩ := hL'.get k hkb
          rw [Nat.zero_add] at q0 q1 q2 q3 q4 q0' q1' q2' q3' q4'
          have RC : Hid (∀ w, Below W.heap.size W w → Calls Tryz.prog 10 #[.agg #[d0, d1, d2, d3, d4], .agg #[d0', d1', d2', d3', d4']] w fun e w' => e = .returned (.bool (eqB a[k] a'[k])) ∧ Below w.heap.size w w') := fun w h => IH.out a[k] (List.getElem_mem hka) a'[k] _ _ w ⟨_, _, _, _, _, rfl, hrd⟩ ⟨_, _, _, _, _, rfl, hrd'⟩ h
          have p0 := (hWr.cell (p := ⟨g, of + k * 5, none⟩) hg).trans q0
          have p0' := (hWr.cell (p := ⟨g', of' + k * 5, none⟩) hg').trans q0'
          have p1 := (hWr.cell (p := ⟨g, of + k * 5 + 1, none⟩) hg).trans q1
          have p1' := (hWr.cell (p := ⟨g', of' + k * 5 + 1, none⟩) hg').trans q1'
          have p2 := (hWr.cell (p := ⟨g, of + k * 5 + 2, none⟩) hg).trans q2
          have p2' := (hWr.cell (p := ⟨g', of' + k * 5 + 2, none⟩) hg').trans q2'
          have p3 := (hWr.cell (p := ⟨g, of + k * 5 + 3, none⟩) hg).trans q3
          have p3' := (hWr.cell (p := ⟨g', of' + k * 5 + 3, none⟩) hg').trans q3'
          have p4 := (hWr.cell (p := ⟨g, of + k * 5 + 4, none⟩) hg).trans q4
          have p4' := (hWr.cell (p := ⟨g', of' + k * 5 + 4, none⟩) hg').trans q4'
          have s0 := (And.intro b1 (And.intro b2 (And.intro p0 (And.intro p1 (And.intro p2 (And.intro p3 (And.intro p4 (And.intro p0' (And.intro p1' (And.intro p2' (And.intro p3' p4')))))))))))
          have hgr : g < wr.heap.size := Nat.lt_of_lt_of_le hg hWr.size
          have hgr' : g' < wr.heap.size := Nat.lt_of_lt_of_le hg' hWr.size
          have hwr : w.heap.size + 1 < wr.heap.size := by have := hBr.size; omega
          have i3 : (0 : Int) ≤ (k : Int) := by omega
          have i4 : (k : Int) < (la : Int) := by omega
          have HT : Hid (eqB a[k] a'[k] = true → ∀ j (ha : j < a.length) (hb : j < a'.length), j < k + 1 → a[j] = a'[j]) := fun h j ha hb hj => by
            rcases Nat.lt_succ_iff_lt_or_eq.1 hj with hj | rfl
            · exact HA.out j ha hb hj
            · exact (eqB_iff _ _).1 h
          have HF : Hid (eqB a[k] a'[k] = false → q = false) := fun h => HNoA.out k hka hkb (fun e => by rw [eqB_yes e] at h; cases h)
          generalize eqB a[k] a'[k] = r at *
          clear IH HA HNoT HNoA HY q0 q1 q2 q3 q4 q0' q1' q2' q3' q4' hrd hrd' b1 b2 e1 p0 p0' p1 p1' p2 p2' p3 p3' p4 p4'
          cases r with
          | true =>
            have HT' := HT.out rfl
            have HT2 : Hid _ := HT'
            clear HT HF HT'
            go_wp2
            go_region_held3 (fun w' => w'.cell? ⟨w.heap.size, 4, none⟩ = some (.slice (some ⟨g, of, none⟩) la cap) ∧ w'.cell? ⟨w.heap.size + 1, 4, none⟩ = some (.slice (some ⟨g', of', none⟩) la cap') ∧ w'.cell? ⟨g, of + k * 5, none⟩ = some d0 ∧ w'.cell? ⟨g, of + k * 5 + 1, none⟩ = some d1 ∧ w'.cell? ⟨g, of + k * 5 + 2, none⟩ = some d2 ∧ w'.cell? ⟨g, of + k * 5 + 3, none⟩ = some d3 ∧ w'.cell? ⟨g, of + k * 5 + 4, none⟩ = some d4 ∧ w'.cell? ⟨g', of' + k * 5, none⟩ = some d0' ∧ w'.cell? ⟨g', of' + k * 5 + 1, none⟩ = some d1' ∧ w'.cell? ⟨g', of' + k * 5 + 2, none⟩ = some d2' ∧ w'.cell? ⟨g', of' + k * 5 + 3, none⟩ = some d3' ∧ w'.cell? ⟨g', of' + k * 5 + 4, none⟩ = some d4') (first | exact s0 | exact s2) ((go_at_call 10; refine (RC.out _ hWr.drew).mono ?_; rintro e w2 ⟨rfl, hB2⟩; have hB2' : Below wr.heap.size wr w2 := (Below.refl _ _).drew.trans hB2; have s2 := twelve_kept hB2' (by omega) (by omega) hgr hgr' s0))
            go_wp2
            go_roundw
            case rel => exact ⟨k + 1, by omega, by go_num, bt2 hBr hB2', HT2⟩
            case measure => simp [intOf]; omega
          | false =>
            have HF2 : Hid (q = false) := HF.out rfl
            clear HT HF
            go_wp2
            go_region_held3 (fun w' => w'.cell? ⟨w.heap.size, 4, none⟩ = some (.slice (some ⟨g, of, none⟩) la cap) ∧ w'.cell? ⟨w.heap.size + 1, 4, none⟩ = some (.slice (some ⟨g', of', none⟩) la cap') ∧ w'.cell? ⟨g, of + k * 5, none⟩ = some d0 ∧ w'.cell? ⟨g, of + k * 5 + 1, none⟩ = some d1 ∧ w'.cell? ⟨g, of + k * 5 + 2, none⟩ = some d2 ∧ w'.cell? ⟨g, of + k * 5 + 3, none⟩ = some d3 ∧ w'.cell? ⟨g, of + k * 5 + 4, none⟩ = some d4 ∧ w'.cell? ⟨g', of' + k * 5, none⟩ = some d0' ∧ w'.cell? ⟨g', of' + k * 5 + 1, none⟩ = some d1' ∧ w'.cell? ⟨g', of' + k * 5 + 2, none⟩ = some d2' ∧ w'.cell? ⟨g', of' + k * 5 + 3, none⟩ = some d3' ∧ w'.cell? ⟨g', of' + k * 5 + 4, none⟩ = some d4') (first | exact s0 | exact s2) ((go_at_call 10; refine (RC.out _ hWr.drew).mono ?_; rintro e w2 ⟨rfl, hB2⟩; have hB2' : Below wr.heap.size wr w2 := (Below.refl _ _).drew.trans hB2; have s2 := twelve_kept hB2' (by omega) (by omega) hgr hgr' s0))
            go_wp2
            go_ret
            exact ⟨retb HF2.out.symm, bt2 hbw hB2'⟩
        · have hlt' : decide (k < la) = false := decide_eq_false hlt
          have HE : Hid (q = true) := HY.out HTall.out (fun j ha hb => HA.out j ha hb (by omega))
          clear IH HA HNoT HNoA HY
          go_wp2
          go_ret
          exact ⟨retb HE.out.symm, hbw⟩
end Go.Proofs.YtabfhdmcljdjhaaGreatDoor.Gl
