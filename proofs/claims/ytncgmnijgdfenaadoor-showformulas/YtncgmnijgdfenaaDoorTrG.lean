/- The document's formula, Measure, Check. -/
import Derived.Test.YtncgmnijgdfenaaDoorTrF
namespace Go.Proofs.YtncgmnijgdfenaaDoor.Gl
open Go.RowKit
set_option linter.unusedVariables false

set_option maxHeartbeats 4000000 in
theorem rformula_at (W : World) (b : Nat) (hb : W.heap.size ≤ b) : ∀ f v dp s w, FmV W f v → Below W.heap.size W w → MtIs w b s → Inv s → s.e = 0 → dp ≤ 41 →
    Calls Tryd.prog 28 #[.pointer (some ⟨b, 0, none⟩), v, .int .i64 (dp : Nat)] w fun e w' => e = .returned (.tuple #[]) ∧ MtIs w' b (meterF nmB f dp s) ∧ But b w w' := by
  refine Fm.ind (fun o x m t a ih v dp s w hv hW hM hI h0 hd => ?_)
  have WL : Hid (∀ w, Calls Tryd.prog 40 #[v] w fun e w' => e = .returned (.bool (wellF nmB (.mk o x m t a))) ∧ Below w.heap.size w w') := fun w => rwellF_at W _ v w hv
  rw [meterF]
  obtain ⟨c0, c1, c2, c3, c4, rfl, hr⟩ := hv
  rw [RdF] at hr
  obtain ⟨rfl, rfl, rfl, hbd, ⟨bo, ct, rfl, hlt1, hct, hLT⟩, ao, ca, rfl, hlc, hcz, hLA⟩ := hr
  generalize hg : wellF nmB (.mk o x m t a) = good at *
  obtain ⟨hI1, hI2⟩ := node_inv (g := good) hI h0 hd
  have ND : Hid (∀ w, MtIs w b s → Calls Tryd.prog 33 #[.pointer (some ⟨b, 0, none⟩), .int .i64 (dp : Nat), .bool good] w fun e w' => e = .returned (.tuple #[]) ∧ MtIs w' b (s.node dp good) ∧ But b w w') := fun w h => rnode_at b dp good s w h (by have := hI.n; omega) (by have := hI.d; omega) (by omega)
  have IH : Hid (∀ f ∈ a, ∀ v dp s w, FmV W f v → Below W.heap.size W w → MtIs w b s → Inv s → s.e = 0 → dp ≤ 41 →
    Calls Tryd.prog 28 #[.pointer (some ⟨b, 0, none⟩), v, .int .i64 (dp : Nat)] w fun e w' => e = .returned (.tuple #[]) ∧ MtIs w' b (meterF nmB f dp s) ∧ But b w w') := ih
  have TH : Hid (∀ t v dp s w, TmV W t v → Below W.heap.size W w → MtIs w b s → Inv s → s.e = 0 → dp ≤ 41 →
    Calls Tryd.prog 20 #[.pointer (some ⟨b, 0, none⟩), v, .int .i64 (dp : Nat)] w fun e w' => e = .returned (.tuple #[]) ∧ MtIs w' b (meterT nmB t dp s) ∧ But b w w') := rterm_at W b hb
  generalize hs1 : s.node dp good = s1 at *
  obtain ⟨S, hS⟩ : ∃ S, meterTL nmB t (dp + 1) s1 = S := ⟨_, rfl⟩
  rw [hS]
  have HS : Hid (meterTL nmB t (dp + 1) s1 = S) := hS
  have hIS : Inv S := by rw [← hS]; exact meterTL_inv (fun u _ => meterT_inv nmB u) (dp + 1) _ hI1 (fun he => by have := hI2 he; omega)
  have hIeS : S.e = 0 → dp ≤ 40 := fun he => hI2 (Decidable.byContradiction (fun hc => by rw [← hS, meterTL_err _ _ _ _ hc] at he; exact hc he))
  have hbw := mt_lt hM
  have hMa := mt_keep hM (bta0 w (.cells #[.int .i64 o, .string x, .int .i64 m, .slice bo t.length ct, .slice ao a.length ca] 26))
  clear hs1 hg ih hS
  go_enter Tryd.func28, Tryd.ntmps28
  go_wp2_with (first
    | (go_at_call 40; refine (WL.out _).mono ?_; rintro e w2 ⟨rfl, hB2⟩; have hM2 := mt_keep hMa hB2)
    | (go_at_call 33; refine (ND.out _ hM2).mono ?_; rintro e w3 ⟨rfl, hM3, hU3⟩))
  have hU : But b w w3 := (But.of (ba2 hB2)).trans hU3
  obtain ⟨_, _, hd2, _⟩ := res_keep hB2
  have hsz2 : w.heap.size < w2.heap.size := by have := hB2.size; simp at this; omega
  have hbox3 : w3.cell? ⟨w.heap.size, 3, none⟩ = some (.slice bo t.length ct) := (hU3.cell hsz2 (by omega)).trans (hd2 3)
  have hbox4 : w3.cell? ⟨w.heap.size, 4, none⟩ = some (.slice ao a.length ca) := (hU3.cell hsz2 (by omega)).trans (hd2 4)
  have hsz3 : w.heap.size < w3.heap.size := Nat.lt_of_lt_of_le hsz2 hU3.size
  have hWs := hW.size
  clear WL ND hM hMa hB2 hM2 hU3 hd2 hI h0
  go_loopw [6] (fun i wr => ∃ (k : Nat) (st : St), k ≤ t.length ∧ i = .int .i64 k ∧ MtIs wr b st ∧ Inv st ∧ (st.e = 0 → dp ≤ 40) ∧ But b w wr ∧ wr.cell? ⟨w.heap.size, 3, none⟩ = some (.slice bo t.length ct) ∧ wr.cell? ⟨w.heap.size, 4, none⟩ = some (.slice ao a.length ca) ∧ w.heap.size < wr.heap.size ∧ Hid (meterTL nmB (t.drop k) (dp + 1) st = S)) (fun i _ => t.length - (intOf i).toNat)
  case atStart => exact ⟨0, s1, Nat.zero_le _, rfl, hM3, hI1, hI2, hU, hbox3, hbox4, hsz3, HS⟩
  case round =>
    obtain ⟨k, st, hk, rfl, hMr, hIr, hIe, hUr, hbr3, hbr4, hsr, HR⟩ := hrel
    obtain ⟨m0, m1, m2, n0, n1, n2⟩ := mt_cells hMr
    by_cases hlt : k < t.length
    · by_cases he : st.e = 0
      · have hWr : Below W.heap.size W wr := hW.trans (hUr.below hb hWs)
        obtain ⟨g, of, d0, d1, d2, d3, rfl, hg, q0, q1, q2, q3, hrd⟩ := hLT.get k hlt
        rw [Nat.zero_add] at q0 q1 q2 q3
        have p0 := (hWr.cell (p := ⟨g, of + k * 4, none⟩) hg).trans q0
        have p1 := (hWr.cell (p := ⟨g, of + k * 4 + 1, none⟩) hg).trans q1
        have p2 := (hWr.cell (p := ⟨g, of + k * 4 + 2, none⟩) hg).trans q2
        have p3 := (hWr.cell (p := ⟨g, of + k * 4 + 3, none⟩) hg).trans q3
        have RC : Hid (Calls Tryd.prog 20 #[.pointer (some ⟨b, 0, none⟩), .agg #[d0, d1, d2, d3], .int .i64 ((dp : Int) + 1)] wr fun e w' => e = .returned (.tuple #[]) ∧ MtIs w' b (meterT nmB t[k] (dp + 1) st) ∧ But b wr w') :=
          TH.out t[k] _ (dp + 1) st wr ⟨_, _, _, _, rfl, hrd⟩ hWr hMr hIr he (by have := hIe he; omega)
        have HN : Hid (meterTL nmB (t.drop (k + 1)) (dp + 1) (meterT nmB t[k] (dp + 1) st) = S) := by
          have := HR.out
          rw [List.drop_eq_getElem_cons hlt, meterTL, if_pos he] at this
          exact this
        have hIn : Inv (meterT nmB t[k] (dp + 1) st) := meterT_inv nmB _ _ _ hIr he (by have := hIe he; omega)
        have hdp : dp ≤ 40 := hIe he
        have he' : ((st.e : Int) == 0) = true := by simp; omega
        generalize meterT nmB t[k] (dp + 1) st = st2 at *
        clear IH TH HR q0 q1 q2 q3 hrd
        go_wp2_with (go_at_call 20; refine RC.out.mono ?_; rintro e w5 ⟨rfl, hM5, hU5⟩)
        go_roundw
        case rel => exact ⟨k + 1, st2, by omega, by go_num, hM5, hIn, fun _ => hdp, hUr.trans hU5, (hU5.cell hsr (by omega)).trans hbr3, (hU5.cell hsr (by omega)).trans hbr4, Nat.lt_of_lt_of_le hsr hU5.size, HN⟩
        case measure => simp [intOf]; omega
      · have he' : ((st.e : Int) == 0) = false := by simp; omega
        obtain rfl : S = st := by
          have := HR.out
          rw [meterTL_err _ _ _ _ he] at this
          exact this.symm
        have hMS := hMr
        clear TH HR HS hM3 hU hbox3 hbox4 hsz3
        go_wp2
        obtain ⟨wv, hwv⟩ : ∃ wv, wv = wr := ⟨_, rfl⟩
        subst hwv
        go_loopw [7] (fun i wr => ∃ (k : Nat) (st : St), k ≤ a.length ∧ i = .int .i64 k ∧ MtIs wr b st ∧ Inv st ∧ (st.e = 0 → dp ≤ 40) ∧ But b w wr ∧ wr.cell? ⟨w.heap.size, 4, none⟩ = some (.slice ao a.length ca) ∧ w.heap.size < wr.heap.size ∧ Hid (meterFL nmB (a.drop k) (dp + 1) st = meterFL nmB a (dp + 1) S)) (fun i _ => a.length - (intOf i).toNat)
        case atStart => exact ⟨0, S, Nat.zero_le _, rfl, hMS, hIS, hIeS, hUr, hbr4, hsr, rfl⟩
        case round =>
          obtain ⟨k, st, hk, rfl, hMr, hIr, hIe, hUr, hbr, hsr, HR⟩ := hrel
          obtain ⟨m0, m1, m2, n0, n1, n2⟩ := mt_cells hMr
          by_cases hlt : k < a.length
          · by_cases he : st.e = 0
            · have hWr : Below W.heap.size W wr := hW.trans (hUr.below hb hWs)
              obtain ⟨g, of, d0, d1, d2, d3, d4, rfl, hg, q0, q1, q2, q3, q4, hrd⟩ := hLA.get k hlt
              rw [Nat.zero_add] at q0 q1 q2 q3 q4
              have p0 := (hWr.cell (p := ⟨g, of + k * 5, none⟩) hg).trans q0
              have p1 := (hWr.cell (p := ⟨g, of + k * 5 + 1, none⟩) hg).trans q1
              have p2 := (hWr.cell (p := ⟨g, of + k * 5 + 2, none⟩) hg).trans q2
              have p3 := (hWr.cell (p := ⟨g, of + k * 5 + 3, none⟩) hg).trans q3
              have p4 := (hWr.cell (p := ⟨g, of + k * 5 + 4, none⟩) hg).trans q4
              have RC : Hid (Calls Tryd.prog 28 #[.pointer (some ⟨b, 0, none⟩), .agg #[d0, d1, d2, d3, d4], .int .i64 ((dp : Int) + 1)] wr fun e w' => e = .returned (.tuple #[]) ∧ MtIs w' b (meterF nmB a[k] (dp + 1) st) ∧ But b wr w') :=
                IH.out a[k] (List.getElem_mem hlt) _ (dp + 1) st wr ⟨_, _, _, _, _, rfl, hrd⟩ hWr hMr hIr he (by have := hIe he; omega)
              have HN : Hid (meterFL nmB (a.drop (k + 1)) (dp + 1) (meterF nmB a[k] (dp + 1) st) = meterFL nmB a (dp + 1) S) := by
                have := HR.out
                rw [List.drop_eq_getElem_cons hlt, meterFL, if_pos he] at this
                exact this
              have hIn : Inv (meterF nmB a[k] (dp + 1) st) := meterF_inv nmB _ _ _ hIr he (by have := hIe he; omega)
              have hdp : dp ≤ 40 := hIe he
              have he' : ((st.e : Int) == 0) = true := by simp; omega
              generalize meterF nmB a[k] (dp + 1) st = st2 at *
              clear IH HR q0 q1 q2 q3 q4 hrd
              go_wp2_with (go_at_call 28; refine RC.out.mono ?_; rintro e w5 ⟨rfl, hM5, hU5⟩)
              go_roundw
              case rel => exact ⟨k + 1, st2, by omega, by go_num, hM5, hIn, fun _ => hdp, hUr.trans hU5, (hU5.cell hsr (by omega)).trans hbr, Nat.lt_of_lt_of_le hsr hU5.size, HN⟩
              case measure => simp [intOf]; omega
            · have he' : ((st.e : Int) == 0) = false := by simp; omega
              have HE : Hid (st = meterFL nmB a (dp + 1) S) := by
                have := HR.out
                rw [meterFL_err _ _ _ _ he] at this
                exact this
              clear IH HR
              go_wp2
              go_end0
              exact ⟨rfl, by rw [← HE.out]; exact hMr, hUr⟩
          · obtain rfl : k = a.length := by omega
            have HE : Hid (st = meterFL nmB a (dp + 1) S) := by
              have := HR.out
              rw [List.drop_of_length_le (Nat.le_refl _), meterFL] at this
              exact this
            clear IH HR
            go_wp2
            go_end0
            exact ⟨rfl, by rw [← HE.out]; exact hMr, hUr⟩
    · obtain rfl : k = t.length := by omega
      obtain rfl : S = st := by
        have := HR.out
        rw [List.drop_of_length_le (Nat.le_refl _), meterTL] at this
        exact this.symm
      have hMS := hMr
      clear TH HR HS hM3 hU hbox3 hbox4 hsz3
      go_wp2
      obtain ⟨wv, hwv⟩ : ∃ wv, wv = wr := ⟨_, rfl⟩
      subst hwv
      go_loopw [7] (fun i wr => ∃ (k : Nat) (st : St), k ≤ a.length ∧ i = .int .i64 k ∧ MtIs wr b st ∧ Inv st ∧ (st.e = 0 → dp ≤ 40) ∧ But b w wr ∧ wr.cell? ⟨w.heap.size, 4, none⟩ = some (.slice ao a.length ca) ∧ w.heap.size < wr.heap.size ∧ Hid (meterFL nmB (a.drop k) (dp + 1) st = meterFL nmB a (dp + 1) S)) (fun i _ => a.length - (intOf i).toNat)
      case atStart => exact ⟨0, S, Nat.zero_le _, rfl, hMS, hIS, hIeS, hUr, hbr4, hsr, rfl⟩
      case round =>
        obtain ⟨k, st, hk, rfl, hMr, hIr, hIe, hUr, hbr, hsr, HR⟩ := hrel
        obtain ⟨m0, m1, m2, n0, n1, n2⟩ := mt_cells hMr
        by_cases hlt : k < a.length
        · by_cases he : st.e = 0
          · have hWr : Below W.heap.size W wr := hW.trans (hUr.below hb hWs)
            obtain ⟨g, of, d0, d1, d2, d3, d4, rfl, hg, q0, q1, q2, q3, q4, hrd⟩ := hLA.get k hlt
            rw [Nat.zero_add] at q0 q1 q2 q3 q4
            have p0 := (hWr.cell (p := ⟨g, of + k * 5, none⟩) hg).trans q0
            have p1 := (hWr.cell (p := ⟨g, of + k * 5 + 1, none⟩) hg).trans q1
            have p2 := (hWr.cell (p := ⟨g, of + k * 5 + 2, none⟩) hg).trans q2
            have p3 := (hWr.cell (p := ⟨g, of + k * 5 + 3, none⟩) hg).trans q3
            have p4 := (hWr.cell (p := ⟨g, of + k * 5 + 4, none⟩) hg).trans q4
            have RC : Hid (Calls Tryd.prog 28 #[.pointer (some ⟨b, 0, none⟩), .agg #[d0, d1, d2, d3, d4], .int .i64 ((dp : Int) + 1)] wr fun e w' => e = .returned (.tuple #[]) ∧ MtIs w' b (meterF nmB a[k] (dp + 1) st) ∧ But b wr w') :=
              IH.out a[k] (List.getElem_mem hlt) _ (dp + 1) st wr ⟨_, _, _, _, _, rfl, hrd⟩ hWr hMr hIr he (by have := hIe he; omega)
            have HN : Hid (meterFL nmB (a.drop (k + 1)) (dp + 1) (meterF nmB a[k] (dp + 1) st) = meterFL nmB a (dp + 1) S) := by
              have := HR.out
              rw [List.drop_eq_getElem_cons hlt, meterFL, if_pos he] at this
              exact this
            have hIn : Inv (meterF nmB a[k] (dp + 1) st) := meterF_inv nmB _ _ _ hIr he (by have := hIe he; omega)
            have hdp : dp ≤ 40 := hIe he
            have he' : ((st.e : Int) == 0) = true := by simp; omega
            generalize meterF nmB a[k] (dp + 1) st = st2 at *
            clear IH HR q0 q1 q2 q3 q4 hrd
            go_wp2_with (go_at_call 28; refine RC.out.mono ?_; rintro e w5 ⟨rfl, hM5, hU5⟩)
            go_roundw
            case rel => exact ⟨k + 1, st2, by omega, by go_num, hM5, hIn, fun _ => hdp, hUr.trans hU5, (hU5.cell hsr (by omega)).trans hbr, Nat.lt_of_lt_of_le hsr hU5.size, HN⟩
            case measure => simp [intOf]; omega
          · have he' : ((st.e : Int) == 0) = false := by simp; omega
            have HE : Hid (st = meterFL nmB a (dp + 1) S) := by
              have := HR.out
              rw [meterFL_err _ _ _ _ he] at this
              exact this
            clear IH HR
            go_wp2
            go_end0
            exact ⟨rfl, by rw [← HE.out]; exact hMr, hUr⟩
        · obtain rfl : k = a.length := by omega
          have HE : Hid (st = meterFL nmB a (dp + 1) S) := by
            have := HR.out
            rw [List.drop_of_length_le (Nat.le_refl _), meterFL] at this
            exact this
          clear IH HR
          go_wp2
          go_end0
          exact ⟨rfl, by rw [← HE.out]; exact hMr, hUr⟩
end Go.Proofs.YtncgmnijgdfenaaDoor.Gl
