/- The document's Free: the walk. -/
import Derived.Test.YtiihabecncnbcaaTrL
namespace Go.Proofs.Ytiihabecncnbcaa.Gl
open Go.RowKit
set_option linter.unusedVariables false

theorem apart_start {wr w2 : World} {B n k c : Nat} {v : Value} {xs zs : List Value} {ro : Option Addr} (hw : wr.ownsRow B 9 1 v n xs) (hO : w2.ownsRow B 9 1 v n xs) (h2 : w2.ownsRow wr.heap.size 9 1 (.slice ro k c) k zs) : ∃ b0, Apart w2 b0 w2 v ∧ ∀ g of fz, ro = some ⟨g, of, fz⟩ → b0 ≠ some g := by
  refine ⟨v.ownBlock, Apart.refl _ _, fun g of fz e hb => ?_⟩
  subst e
  have h3 := (hw.lt g hb).2
  rcases h2.2 with ⟨e, _⟩ | ⟨g', cap, cur, e, hg, _⟩
  · cases e
  · simp only [Value.slice.injEq, Option.some.injEq, Addr.mk.injEq] at e
    omega
set_option maxRecDepth 100000 in
set_option maxHeartbeats 4000000 in
theorem rfree_at (W : World) : ∀ f v w, FmV W f v → Below W.heap.size W w → f.size ≤ 1000 →
    Calls Try.prog 13 #[v] w fun e w' => ∃ v', e = .returned v' ∧ w'.ownsRow w.heap.size 9 1 v' (freeF f).length (cellsS (freeF f)) ∧ Below w.heap.size w w' := by
  refine Fm.ind (fun o x m t a ih v w hv hW hsz => ?_)
  obtain ⟨c0, c1, c2, c3, c4, rfl, hr⟩ := hv
  rw [RdF] at hr
  obtain ⟨rfl, rfl, rfl, hbd, ⟨bo, bap, rfl, hbc, hbz, hT⟩, ao, cap, rfl, hlc, hcz, hL⟩ := hr
  have IH : Hid (∀ f ∈ a, ∀ v w, FmV W f v → Below W.heap.size W w → f.size ≤ 1000 → Calls Try.prog 13 #[v] w fun e w' => ∃ v', e = .returned v' ∧ w'.ownsRow w.heap.size 9 1 v' (freeF f).length (cellsS (freeF f)) ∧ Below w.heap.size w w') := ih
  have NH : Hid (∀ t v w, TmV W t v → Below W.heap.size W w → t.size ≤ 1000 → Calls Try.prog 28 #[v] w fun e w' => ∃ v', e = .returned v' ∧ w'.ownsRow w.heap.size 9 1 v' (namesT t).length (cellsS (namesT t)) ∧ Below w.heap.size w w') := rnames_at W
  clear ih
  have hWs := hW.size
  rw [Fm.size] at hsz
  rw [freeF]
  obtain ⟨lt, hn⟩ : ∃ lt, t.length = lt := ⟨_, rfl⟩
  obtain ⟨la, hm⟩ : ∃ la, a.length = la := ⟨_, rfl⟩
  rw [hn] at hbc ⊢
  rw [hm] at hlc ⊢
  have hbx := fun o' => cell_newO w #[.int .i64 o, .string x, .int .i64 m, .slice bo lt bap, .slice ao la cap] 27 _ rfl o'
  have hb1 : Below w.heap.size w (w.alloc (.cells #[.int .i64 o, .string x, .int .i64 m, .slice bo lt bap, .slice ao la cap] 27)) := bta0 _ _
  have hs1 : (w.alloc (.cells #[.int .i64 o, .string x, .int .i64 m, .slice bo lt bap, .slice ao la cap] 27)).heap.size = w.heap.size + 1 := by simp
  have TG : Hid (∀ ao n c T w, RdS w ao n c T → (n + 2) * 16 ≤ 140737488355328 → Calls Try.prog 29 #[.slice ao n c] w fun e w' => ∃ v, e = .returned v ∧ w'.ownsRow w.heap.size 9 1 v (togL T).length (cellsS (togL T)) ∧ Below w.heap.size w w') := fun ao n c T w h hn => rtogether_at ao n c T w h hn
  have HLT : Hid (∀ k, (namesTL (t.take k)).length ≤ 1000) := fun k => by
    have h1 := namesTL_len (l := t.take k) (fun t _ => namesT_len t)
    have h2 := Tm.sizeL_take t k
    omega
  have HLA : Hid (∀ k, (namesTL t ++ freeFL (quant o) x (a.take k)).length ≤ 1000) := fun k => by
    have h0 := namesTL_len (l := t) (fun t _ => namesT_len t)
    have h1 := freeFL_len (q := quant o) (x := x) (l := a.take k) (fun t _ => freeF_len t)
    have h2 := Fm.sizeL_take a k
    rw [List.length_append]
    omega
  generalize hW1 : w.alloc (.cells #[.int .i64 o, .string x, .int .i64 m, .slice bo lt bap, .slice ao la cap] 27) = W1 at hbx hb1 hs1
  go_enter Try.func13, Try.ntmps13
  go_wp2
  clear hW1
  go_loopw [3, 4] (fun out i wr => ∃ k : Nat, k ≤ lt ∧ i = .int .i64 k ∧ wr.ownsRow W1.heap.size 9 1 out (namesTL (t.take k)).length (cellsS (namesTL (t.take k))) ∧ Below W1.heap.size W1 wr) (fun _ i _ => lt - (intOf i).toNat)
  case atStart => exact ⟨0, Nat.zero_le _, rfl, by rw [List.take_zero, namesTL]; exact ⟨rfl, .inl ⟨rfl, rfl⟩⟩, Below.refl _ _⟩
  case round =>
    obtain ⟨k, hk, rfl, hO, hBr⟩ := hrel
    have b3 := (hBr.cell (p := ⟨w.heap.size, 3, none⟩) (by simp; omega)).trans (hbx 3)
    have b4 := (hBr.cell (p := ⟨w.heap.size, 4, none⟩) (by simp; omega)).trans (hbx 4)
    have hbw := bt2 hb1 hBr
    have hWr : Below W.heap.size W wr := hW.trans (hbw.mono hWs)
    have hln := HLT.out k
    by_cases hlt : k < lt
    · have hka : k < t.length := by omega
      obtain ⟨g, of, d0, d1, d2, d3, rfl, hg, q0, q1, q2, q3, hrd⟩ := hT.get k hka
      rw [Nat.zero_add] at q0 q1 q2 q3
      have hsk : (t[k]).size ≤ 1000 := by have := Tm.size_mem (List.getElem_mem hka); omega
      have RC : Hid (Calls Try.prog 28 #[.agg #[d0, d1, d2, d3]] wr fun e w' => ∃ v', e = .returned v' ∧ w'.ownsRow wr.heap.size 9 1 v' (namesT t[k]).length (cellsS (namesT t[k])) ∧ Below wr.heap.size wr w') := NH.out t[k] _ wr ⟨_, _, _, _, rfl, hrd⟩ hWr hsk
      have p0 := (hWr.cell (p := ⟨g, of + k * 4, none⟩) hg).trans q0
      have p1 := (hWr.cell (p := ⟨g, of + k * 4 + 1, none⟩) hg).trans q1
      have p2 := (hWr.cell (p := ⟨g, of + k * 4 + 2, none⟩) hg).trans q2
      have p3 := (hWr.cell (p := ⟨g, of + k * 4 + 3, none⟩) hg).trans q3
      have HTk : Hid (namesTL (t.take (k + 1)) = namesTL (t.take k) ++ namesT t[k]) := namesTL_take t k hka
      have hnk := namesT_len t[k]
      generalize namesT t[k] = D at *
      generalize namesTL (t.take k) = O at *
      clear IH NH q0 q1 q2 q3 hrd HLT HLA TG
      go_wp2_with (first
        | (go_at_call 28; refine RC.out.mono ?_; rintro e w2 ⟨v2, rfl, hO2, hB2⟩; obtain ⟨ro, cr, rfl, hR2⟩ := rds_of_owns hO2; have hOk := owns_below hO hB2)
        | (at_builtin; refine wp_joinS W1 _ W1.heap.size W1.heap.size rfl (.tmp 15) (.tmp 21) rfl _ O.length O rfl ro D.length cr D rfl hOk hR2 (by have := hBr.size; have := hB2.size; omega) (by omega) (bt2 hBr hB2) (Nat.le_refl _) ?_; intro v3 w3 hO3 hB3 hg3))
      go_roundw
      case rel => exact ⟨k + 1, by omega, by go_num, by rw [HTk.out, List.length_append]; exact hO3, hB3⟩
      case measure => simp [intOf]; omega
    · obtain rfl : k = lt := by omega
      have hlt' : decide (k < k) = false := decide_eq_false (by omega)
      have htk : t.take k = t := List.take_of_length_le (by omega)
      rw [htk] at hO
      clear NH HLT hln
      go_wp2
      obtain ⟨wv, hwv⟩ : ∃ wv, wv = wr := ⟨_, rfl⟩
      subst hwv
      go_loopw [3, 5] (fun out i wr => ∃ k : Nat, k ≤ la ∧ i = .int .i64 k ∧ wr.ownsRow W1.heap.size 9 1 out (namesTL t ++ freeFL (quant o) x (a.take k)).length (cellsS (namesTL t ++ freeFL (quant o) x (a.take k))) ∧ Below W1.heap.size W1 wr) (fun _ i _ => la - (intOf i).toNat)
      case atStart => exact ⟨0, Nat.zero_le _, rfl, by rw [List.take_zero, freeFL, List.append_nil]; exact hO, hBr⟩
      case round =>
        clear hO b3 b4 hbw hWr hlt' hk hlt hBr
        obtain ⟨k, hk, rfl, hO, hBr⟩ := hrel
        have b0 := (hBr.cell (p := ⟨w.heap.size, 0, none⟩) (by simp; omega)).trans (hbx 0)
        have b1 := (hBr.cell (p := ⟨w.heap.size, 1, none⟩) (by simp; omega)).trans (hbx 1)
        have b4 := (hBr.cell (p := ⟨w.heap.size, 4, none⟩) (by simp; omega)).trans (hbx 4)
        have hbw := bt2 hb1 hBr
        have hWr : Below W.heap.size W wr := hW.trans (hbw.mono hWs)
        have hln := HLA.out k
        by_cases hlt : k < la
        · have hka : k < a.length := by omega
          obtain ⟨g, of, d0, d1, d2, d3, d4, rfl, hg, q0, q1, q2, q3, q4, hrd⟩ := hL.get k hka
          rw [Nat.zero_add] at q0 q1 q2 q3 q4
          have hsk : (a[k]).size ≤ 1000 := by have := Fm.size_mem (List.getElem_mem hka); omega
          have RC : Hid (Calls Try.prog 13 #[.agg #[d0, d1, d2, d3, d4]] wr fun e w' => ∃ v', e = .returned v' ∧ w'.ownsRow wr.heap.size 9 1 v' (freeF a[k]).length (cellsS (freeF a[k])) ∧ Below wr.heap.size wr w') := IH.out a[k] (List.getElem_mem hka) _ wr ⟨_, _, _, _, _, rfl, hrd⟩ hWr hsk
          have p0 := (hWr.cell (p := ⟨g, of + k * 5, none⟩) hg).trans q0
          have p1 := (hWr.cell (p := ⟨g, of + k * 5 + 1, none⟩) hg).trans q1
          have p2 := (hWr.cell (p := ⟨g, of + k * 5 + 2, none⟩) hg).trans q2
          have p3 := (hWr.cell (p := ⟨g, of + k * 5 + 3, none⟩) hg).trans q3
          have p4 := (hWr.cell (p := ⟨g, of + k * 5 + 4, none⟩) hg).trans q4
          have HTk : Hid (namesTL t ++ freeFL (quant o) x (a.take (k + 1)) = (namesTL t ++ freeFL (quant o) x (a.take k)) ++ (freeF a[k]).filter (keepB (quant o) x)) := by
            show _ = _
            rw [freeFL_take _ _ a k hka, List.append_assoc]
          have hnk := freeF_len a[k]
          generalize freeF a[k] = L at *
          generalize namesTL t ++ freeFL (quant o) x (a.take k) = O at *
          clear IH q0 q1 q2 q3 q4 hrd HLA TG
          go_wp2_with (go_at_call 13; refine RC.out.mono ?_; rintro e w2 ⟨v2, rfl, hO2, hB2⟩; obtain ⟨ro, cr, rfl, hR2⟩ := rds_of_owns hO2; have hOk := owns_below hO hB2)
          obtain ⟨b0', hAp, hsep⟩ := apart_start hO hOk hO2
          have hBw2 := bt2 hBr hB2
          clear hO2 RC p0 p1 p2 p3 p4 b0 b1 b4 hO
          go_wp2
          obtain ⟨wv, hwv⟩ : ∃ wv, wv = wr := ⟨_, rfl⟩
          subst hwv
          go_loopw [3, 7] (fun out i wr => ∃ j : Nat, j ≤ L.length ∧ i = .int .i64 j ∧ wr.ownsRow W1.heap.size 9 1 out (O ++ (L.take j).filter (keepB (quant o) x)).length (cellsS (O ++ (L.take j).filter (keepB (quant o) x))) ∧ Below W1.heap.size W1 wr ∧ Apart w2 b0' wr out) (fun _ i _ => L.length - (intOf i).toNat)
          case atStart => exact ⟨0, Nat.zero_le _, rfl, by rw [List.take_zero, List.filter_nil, List.append_nil]; exact hOk, hBw2, hAp⟩
          case round =>
            clear hOk hAp hBw2
            obtain ⟨j, hj, rfl, hO, hBx, hAp⟩ := hrel
            have e0 := (hBx.cell (p := ⟨w.heap.size, 0, none⟩) (by simp; omega)).trans (hbx 0)
            have e1 := (hBx.cell (p := ⟨w.heap.size, 1, none⟩) (by simp; omega)).trans (hbx 1)
            have hRr := hAp.rds hR2 hsep
            have hfl : (O ++ (L.take j).filter (keepB (quant o) x)).length ≤ 2000 := by
              rw [List.length_append]
              have h1 := List.length_filter_le (keepB (quant o) x) (L.take j)
              rw [List.length_take] at h1
              omega
            by_cases hjl : j < L.length
            · obtain ⟨gl, ol, hro, hcl⟩ := hRr.cell j hjl
              have HF : Hid ((L.take (j + 1)).filter (keepB (quant o) x) = (L.take j).filter (keepB (quant o) x) ++ (if keepB (quant o) x (L.getD j emp) = true then [L.getD j emp] else [])) := filter_take _ L j hjl
              have hlc2 := hRr.lecap
              have hlm2 := hRr.lemax
              have i3 : (0 : Int) ≤ (j : Int) := by omega
              have i4 : (j : Int) < (L.length : Int) := by omega
              generalize hy : L.getD j emp = y at *
              subst hro
              cases hkp : keepB (quant o) x y with
              | true =>
                have HK : Hid (O ++ (L.take (j + 1)).filter (keepB (quant o) x) = (O ++ (L.take j).filter (keepB (quant o) x)) ++ [y]) := by
                  show _ = _
                  rw [HF.out, if_pos hkp, List.append_assoc]
                have hcase : ((o == 7) = false ∧ (o == 8) = false) ∨ ((o = 7 ∨ o = 8) ∧ (y.toList == x.toList) = false) := by
                  by_cases h7 : o = 7
                  · right
                    refine ⟨.inl h7, ?_⟩
                    have : quant o = true := decide_eq_true (.inl h7)
                    rw [keepB, this] at hkp
                    simpa using hkp
                  · by_cases h8 : o = 8
                    · right
                      refine ⟨.inr h8, ?_⟩
                      have : quant o = true := decide_eq_true (.inr h8)
                      rw [keepB, this] at hkp
                      simpa using hkp
                    · exact .inl ⟨by simpa using h7, by simpa using h8⟩
                clear HF hkp
                generalize O ++ (L.take j).filter (keepB (quant o) x) = P at *
                rcases hcase with ⟨h7, h8⟩ | ⟨h7 | h7, hne⟩
                · have h7n : (o != 7) = true := by rw [bne, h7]; rfl
                  have h8n : (o != 8) = true := by rw [bne, h8]; rfl
                  go_wp2
                  go_quiet (fail)
                  go_wp2_with (at_builtin; refine wp_pushL W1 _ W1.heap.size W1.heap.size rfl (.tmp 59) (.tmp 64) rfl _ P.length P rfl _ y rfl (owns_below hO (bta (below_drewn (Below.refl _ _) _) _)) (cell_new1 _ _ _) (by have := hBx.size; simp; omega) (by omega) (bta (below_drewn hBx _) _) (Nat.le_refl _) ?_; intro g3 c3 w3 hO3 hB3 hg3 hat3)
                  go_roundw
                  case rel => exact ⟨j + 1, by omega, by go_num, by rw [HK.out, List.length_append]; exact hO3, hB3, ((hAp.drewn _).alloc _).grown hg3 hat3⟩
                  case measure => simp [intOf]; omega
                · subst h7
                  go_wp2
                  go_quiet (fail)
                  go_wp2_with (at_builtin; refine wp_pushL W1 _ W1.heap.size W1.heap.size rfl (.tmp 59) (.tmp 64) rfl _ P.length P rfl _ y rfl (owns_below hO (bta (below_drewn (Below.refl _ _) _) _)) (cell_new1 _ _ _) (by have := hBx.size; simp; omega) (by omega) (bta (below_drewn hBx _) _) (Nat.le_refl _) ?_; intro g3 c3 w3 hO3 hB3 hg3 hat3)
                  go_roundw
                  case rel => exact ⟨j + 1, by omega, by go_num, by rw [HK.out, List.length_append]; exact hO3, hB3, ((hAp.drewn _).alloc _).grown hg3 hat3⟩
                  case measure => simp [intOf]; omega
                · subst h7
                  go_wp2
                  go_quiet (fail)
                  go_wp2_with (at_builtin; refine wp_pushL W1 _ W1.heap.size W1.heap.size rfl (.tmp 59) (.tmp 64) rfl _ P.length P rfl _ y rfl (owns_below hO (bta (below_drewn (Below.refl _ _) _) _)) (cell_new1 _ _ _) (by have := hBx.size; simp; omega) (by omega) (bta (below_drewn hBx _) _) (Nat.le_refl _) ?_; intro g3 c3 w3 hO3 hB3 hg3 hat3)
                  go_roundw
                  case rel => exact ⟨j + 1, by omega, by go_num, by rw [HK.out, List.length_append]; exact hO3, hB3, ((hAp.drewn _).alloc _).grown hg3 hat3⟩
                  case measure => simp [intOf]; omega
              | false =>
                have HK : Hid (O ++ (L.take (j + 1)).filter (keepB (quant o) x) = O ++ (L.take j).filter (keepB (quant o) x)) := by
                  show _ = _
                  rw [HF.out, if_neg (by rw [hkp]; decide), List.append_nil]
                have hcase : (o = 7 ∨ o = 8) ∧ (y.toList == x.toList) = true := by
                  cases hq : quant o with
                  | false => rw [keepB, hq] at hkp; cases hkp
                  | true =>
                    refine ⟨of_decide_eq_true hq, ?_⟩
                    rw [keepB, hq] at hkp
                    simpa using hkp
                clear HF hkp
                generalize O ++ (L.take j).filter (keepB (quant o) x) = P at *
                obtain ⟨h7 | h7, heq⟩ := hcase
                · subst h7
                  go_wp2
                  go_quiet (fail)
                  go_wp2
                  go_roundw
                  case rel => exact ⟨j + 1, by omega, by go_num, by rw [HK.out]; exact hO, below_drewn hBx _, hAp.drewn _⟩
                  case measure => simp [intOf]; omega
                · subst h7
                  go_wp2
                  go_quiet (fail)
                  go_wp2
                  go_roundw
                  case rel => exact ⟨j + 1, by omega, by go_num, by rw [HK.out]; exact hO, below_drewn hBx _, hAp.drewn _⟩
                  case measure => simp [intOf]; omega
            · obtain rfl : j = L.length := by omega
              have hjl' : decide (L.length < L.length) = false := decide_eq_false (by omega)
              rw [List.take_of_length_le (Nat.le_refl _)] at hO
              clear hRr hR2
              go_wp2
              go_roundw
              case rel => exact ⟨k + 1, by omega, by go_num, by rw [HTk.out]; exact hO, hBx⟩
              case measure => simp [intOf]; omega
        · obtain rfl : k = la := by omega
          have htk : a.take k = a := List.take_of_length_le (by omega)
          rw [htk] at hO hln
          obtain ⟨O, hOe⟩ : ∃ O, namesTL t ++ freeFL (quant o) x a = O := ⟨_, rfl⟩
          rw [hOe] at hO hln
          have HO : Hid (namesTL t ++ freeFL (quant o) x a = O) := hOe
          clear hOe
          obtain ⟨ro, cr, rfl, hR⟩ := rds_of_owns hO
          have hlt' : decide (k < k) = false := decide_eq_false (by omega)
          clear IH HLA hO
          go_wp2_with (go_at_call 29; refine (TG.out _ _ _ _ _ hR (by omega)).mono ?_; rintro e w2 ⟨v2, rfl, hO2, hB2⟩)
          go_ret
          exact ⟨_, rfl, by rw [HO.out]; exact owns_mono hO2 hbw.size, bt2 hbw hB2⟩
end Go.Proofs.Ytiihabecncnbcaa.Gl
/- What the program's tree must answer; the law's same, atom, fixed. -/
namespace Go.Proofs.Ytiihabecncnbcaa.Gl
open Go.RowKit
set_option linter.unusedVariables false

set_option maxHeartbeats 2000000 in
theorem lsame_at (ao ao' : Option Addr) (n c m c' : Nat) (T U : List ByteArray) (r : Bool) (w : World) (h : RdS w ao n c T) (k : RdS w ao' m c' U) (hr : r = true ↔ T = U) :
    Calls Try.prog 12 #[.slice ao n c, .slice ao' m c'] w fun e w' => e = .returned (.bool r) ∧ Below w.heap.size w w' := by
  have hcn := h.lecap
  have hcx := h.lemax
  have hcm := k.lecap
  have hmx := k.lemax
  have HT : Hid (T.length = n) := h.eqlen
  have HU : Hid (U.length = m) := k.eqlen
  have HR : Hid (r = true ↔ T = U) := hr
  clear hr
  by_cases hnm : n = m
  · subst hnm
    go_enter Try.func12, Try.ntmps12
    go_wp2
    go_loopw [13] (fun i wr => ∃ j : Nat, j ≤ n ∧ i = .int .i64 j ∧ Hid (∀ a, a < j → T.getD a emp = U.getD a emp) ∧ Below w.heap.size w wr) (fun i _ => n - (intOf i).toNat)
    case atStart => exact ⟨0, Nat.zero_le _, rfl, fun a ha => absurd ha (by omega), Below.refl _ _⟩
    case round =>
      obtain ⟨j, hj, rfl, hall, hnx⟩ := hrel
      by_cases hlt : j < n
      · obtain ⟨g, o, rfl, hb⟩ := h.cell j hlt
        obtain ⟨g', o', rfl, hc⟩ := k.cell j hlt
        have hb' := (hnx.cell (World.block_lt_of_cell? _ _ hb)).trans hb
        have hc' := (hnx.cell (World.block_lt_of_cell? _ _ hc)).trans hc
        have hnd := hnx.drew
        clear hb hc
        by_cases he : T.getD j emp = U.getD j emp
        · have HE : Hid (T.getD j emp = U.getD j emp) := he
          rw [he] at hb'
          clear he
          obtain ⟨y, hy⟩ : ∃ y, U.getD j emp = y := ⟨_, rfl⟩
          rw [hy] at hb' hc'
          clear hy
          have hyy : (y.toList == y.toList) = true := (eqS_iff y y).2 rfl
          go_wp2
          go_region
          go_wp2
          go_roundw
          case rel =>
            refine ⟨j + 1, by omega, by go_num, fun a ha => ?_, hnd⟩
            rcases Nat.lt_succ_iff_lt_or_eq.1 ha with ha | rfl
            · exact hall.out a ha
            · exact HE.out
          case measure => simp [intOf]; omega
        · have HE : Hid (r = false) := by
            cases r with
            | false => rfl
            | true => exact absurd (by rw [HR.out.1 rfl]) he
          obtain ⟨x, hx⟩ : ∃ x, T.getD j emp = x := ⟨_, rfl⟩
          obtain ⟨y, hy⟩ : ∃ y, U.getD j emp = y := ⟨_, rfl⟩
          rw [hx] at hb' he
          rw [hy] at hc' he
          have hxy : (x.toList == y.toList) = false := by
            cases hq : (x.toList == y.toList) with
            | false => rfl
            | true => exact absurd ((eqS_iff x y).1 hq) he
          clear hx hy he
          go_wp2
          go_region
          go_wp2
          go_ret
          exact ⟨retb HE.out.symm, hnd⟩
      · obtain rfl : j = n := by omega
        have HE : Hid (r = true) := HR.out.2 (slist_eq j HT.out HU.out hall.out)
        go_wp2
        go_ret
        exact ⟨retb HE.out.symm, hnx⟩
  · have HE : Hid (r = false) := by
      cases r with
      | false => rfl
      | true => exact absurd (by rw [← HT.out, HR.out.1 rfl, HU.out]) hnm
    have hnm' : ¬ (n : Int) = (m : Int) := by omega
    have hB0 := Below.refl w.heap.size w
    go_enter Try.func12, Try.ntmps12
    go_wp2
    go_ret
    exact ⟨retb HE.out.symm, hB0⟩
/- how many free variables, at the most -/
mutual
def widF : Fm → Nat | .mk o x m t a => max (freeF (.mk o x m t a)).length (widFL a)
def widFL : List Fm → Nat | [] => 0 | f :: r => max (widF f) (widFL r)
end
mutual
def plainF : Fm → Bool | .mk o x m t a => !(quant o) && plainFL a
def plainFL : List Fm → Bool | [] => true | f :: r => plainF f && plainFL r
end
noncomputable def ok0 (f : Fm) (n : Nat) : Nat := if chk nmB f = 0 then n else 0
noncomputable def frOf (f : Fm) : List ByteArray := if chk nmB f = 0 then freeF f else []
/-- what the functions of tree answer -/
structure TreeC : Prop where
  check : ∀ W f v w, FmV W f v → Below W.heap.size W w → Calls Try.prog 16 #[v] w fun e w' => e = .returned (.int .i64 (chk nmB f)) ∧ Below w.heap.size w w'
  size : ∀ W f v w, FmV W f v → Below W.heap.size W w → Calls Try.prog 18 #[v] w fun e w' => e = .returned (.tuple #[.int .i64 (ok0 f f.size), .int .i64 (chk nmB f)]) ∧ Below w.heap.size w w'
  depth : ∀ W f v w, FmV W f v → Below W.heap.size W w → Calls Try.prog 19 #[v] w fun e w' => e = .returned (.tuple #[.int .i64 (ok0 f f.deep), .int .i64 (chk nmB f)]) ∧ Below w.heap.size w w'
  free : ∀ W f v w, FmV W f v → Below W.heap.size W w → Calls Try.prog 10 #[v] w fun e w' => ∃ v', e = .returned (.tuple #[v', .int .i64 (chk nmB f)]) ∧ w'.ownsRow w.heap.size 9 1 v' (frOf f).length (cellsS (frOf f)) ∧ Below w.heap.size w w'
  widest : ∀ W f v w, FmV W f v → Below W.heap.size W w → Calls Try.prog 21 #[v] w fun e w' => e = .returned (.tuple #[.int .i64 (ok0 f (widF f)), .int .i64 (chk nmB f)]) ∧ Below w.heap.size w w'
  plain : ∀ W f v w, FmV W f v → Below W.heap.size W w → Calls Try.prog 23 #[v] w fun e w' => e = .returned (.tuple #[.bool (decide (chk nmB f = 0) && plainF f), .int .i64 (chk nmB f)]) ∧ Below w.heap.size w w'
  same : ∀ W f g v v' w, FmV W f v → FmV W g v' → Below W.heap.size W w → Calls Try.prog 14 #[v, v'] w fun e w' => e = .returned (.bool (decide (chk nmB f = 0) && decide (chk nmB g = 0) && eqB f g)) ∧ Below w.heap.size w w'
/- x <= 1 -/
abbrev exx : ByteArray := ⟨#[120]⟩
abbrev atomF : Fm := .mk 9 emp 0 [.mk 1 0 exx [], .mk 0 1 emp []] []
theorem xx_name : IsName exx := by
  refine ⟨⟨1, by unfold IsCnt; decide +kernel, by omega, by omega, ?_⟩, by decide +kernel⟩
  intro j hj
  obtain rfl : j = 0 := by omega
  decide +kernel
theorem xx_nm : nmB exx = true := (nmB_iff _).2 xx_name
theorem atom_right : right nmB atomF := by
  refine ⟨by decide, by decide, ?_⟩
  show (wellF nmB atomF && Tm.allL (wellT nmB) [.mk 1 0 exx [], .mk 0 1 emp []] && Fm.allL (wellT nmB) (wellF nmB) []) = true
  have h1 : wellF nmB atomF = true := by
    show wF nmB 9 emp 0 2 0 = true
    unfold wF
    rw [if_neg (by decide), if_neg (by decide), if_pos (by decide)]
    decide +kernel
  have h2 : Tm.all (wellT nmB) (.mk 1 0 exx []) = true := by
    rw [Tm.all, Tm.allL]
    show (wT nmB 1 0 exx 0 && true) = true
    unfold wT
    rw [if_neg (by decide), if_pos rfl, xx_nm]
    rfl
  have h3 : Tm.all (wellT nmB) (.mk 0 1 emp []) = true := by
    rw [Tm.all, Tm.allL]
    show (wT nmB 0 1 emp 0 && true) = true
    unfold wT
    rw [if_pos rfl]
    decide +kernel
  rw [h1, Tm.allL, Tm.allL, Tm.allL, h2, h3, Fm.allL]
  rfl
theorem atom_chk : chk nmB atomF = 0 := (chk_iff nmB atomF).2 atom_right
theorem atom_free : freeF atomF = [exx] := by
  rw [freeF, namesTL, namesTL, namesTL, namesT, namesT, namesTL, freeFL]
  decide +kernel
theorem bad_chk : chk nmB (.mk 99 emp 0 [] []) = 3 := by
  unfold chk
  rw [meterF, meterTL, meterFL]
  show (St.node 1 (wF nmB 99 emp 0 0 0) ⟨0, 0, 0⟩).e = 3
  have : wF nmB 99 emp 0 0 0 = false := by
    unfold wF
    rw [if_neg (by decide), if_neg (by decide), if_neg (by decide)]
  rw [this]
  rfl
end Go.Proofs.Ytiihabecncnbcaa.Gl
