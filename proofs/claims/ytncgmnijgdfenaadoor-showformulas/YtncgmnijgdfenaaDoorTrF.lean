/- The document's term: a term's nodes. -/
import Derived.Test.YtncgmnijgdfenaaDoorTrE
namespace Go.Proofs.YtncgmnijgdfenaaDoor.Gl
open Go.RowKit
set_option linter.unusedVariables false

structure Inv (s : St) : Prop where
  n : s.n ≤ 501
  d : s.d ≤ 41
  m : s.e = 0 → s.n ≤ 500
theorem node_inv {s : St} {dp : Nat} {g : Bool} (h : Inv s) (h0 : s.e = 0) (hd : dp ≤ 41) : Inv (s.node dp g) ∧ ((s.node dp g).e = 0 → dp ≤ 40) := by
  have hn := h.m h0
  have hdd := h.d
  unfold St.node
  refine ⟨⟨(show s.n + 1 ≤ 501 by omega), (show max s.d dp ≤ 41 by omega), fun he => ?_⟩, fun he => ?_⟩
  · show s.n + 1 ≤ 500
    dsimp only at he
    split at he
    · cases he
    · omega
  · dsimp only at he
    split at he
    · cases he
    · split at he
      · cases he
      · omega
theorem meterTL_inv {nm : ByteArray → Bool} {l : List Tm} (hl : ∀ t ∈ l, ∀ dp s, Inv s → s.e = 0 → dp ≤ 41 → Inv (meterT nm t dp s)) (dp : Nat) : ∀ s, Inv s → (s.e = 0 → dp ≤ 41) → Inv (meterTL nm l dp s) := by
  induction l with
  | nil => intro s h _; rw [meterTL]; exact h
  | cons t r ih =>
    intro s h hd
    rw [meterTL]
    split
    · rename_i h0
      exact ih (fun u hu => hl u (List.mem_cons_of_mem _ hu)) _ (hl t (List.mem_cons_self ..) dp s h h0 (hd h0)) (fun _ => hd h0)
    · exact h
theorem meterT_inv (nm : ByteArray → Bool) : ∀ t dp s, Inv s → s.e = 0 → dp ≤ 41 → Inv (meterT nm t dp s) := by
  refine Tm.ind (fun o n x a ih dp s h h0 hd => ?_)
  rw [meterT]
  obtain ⟨h1, h2⟩ := node_inv (g := wellT nm (.mk o n x a)) h h0 hd
  exact meterTL_inv ih (dp + 1) _ h1 (fun he => by have := h2 he; omega)
theorem meterFL_inv {nm : ByteArray → Bool} {l : List Fm} (hl : ∀ t ∈ l, ∀ dp s, Inv s → s.e = 0 → dp ≤ 41 → Inv (meterF nm t dp s)) (dp : Nat) : ∀ s, Inv s → (s.e = 0 → dp ≤ 41) → Inv (meterFL nm l dp s) := by
  induction l with
  | nil => intro s h _; rw [meterFL]; exact h
  | cons t r ih =>
    intro s h hd
    rw [meterFL]
    split
    · rename_i h0
      exact ih (fun u hu => hl u (List.mem_cons_of_mem _ hu)) _ (hl t (List.mem_cons_self ..) dp s h h0 (hd h0)) (fun _ => hd h0)
    · exact h
theorem meterF_inv (nm : ByteArray → Bool) : ∀ f dp s, Inv s → s.e = 0 → dp ≤ 41 → Inv (meterF nm f dp s) := by
  refine Fm.ind (fun o x m t a ih dp s h h0 hd => ?_)
  rw [meterF]
  obtain ⟨h1, h2⟩ := node_inv (g := wellF nm (.mk o x m t a)) h h0 hd
  have h3 := meterTL_inv (nm := nm) (l := t) (fun u _ => meterT_inv nm u) (dp + 1) _ h1 (fun he => by have := h2 he; omega)
  refine meterFL_inv ih (dp + 1) _ h3 (fun he => ?_)
  have : (s.node dp (wellF nm (.mk o x m t a))).e = 0 := Decidable.byContradiction (fun hc => by rw [meterTL_err _ _ _ _ hc] at he; exact hc he)
  have := h2 this
  omega
theorem mt_keep {w w' : World} {b : Nat} {s : St} (h : MtIs w b s) (hb : Below w.heap.size w w') : MtIs w' b s := by
  obtain ⟨fr, h⟩ := h
  exact ⟨fr, (hb.block b (Array.getElem?_eq_some_iff.1 h).1).trans h⟩
theorem mt_lt {w : World} {b : Nat} {s : St} (h : MtIs w b s) : b < w.heap.size := by
  obtain ⟨fr, h⟩ := h
  exact (Array.getElem?_eq_some_iff.1 h).1
theorem But.cell {b : Nat} {w w' : World} (h : But b w w') {g o : Nat} (hg : g < w.heap.size) (hn : g ≠ b) : w'.cell? ⟨g, o, none⟩ = w.cell? ⟨g, o, none⟩ := World.cell?_of_block (w := w) (h.block g hg hn)
set_option maxHeartbeats 2000000 in
theorem rterm_at (W : World) (b : Nat) (hb : W.heap.size ≤ b) : ∀ t v dp s w, TmV W t v → Below W.heap.size W w → MtIs w b s → Inv s → s.e = 0 → dp ≤ 41 →
    Calls Tryd.prog 20 #[.pointer (some ⟨b, 0, none⟩), v, .int .i64 (dp : Nat)] w fun e w' => e = .returned (.tuple #[]) ∧ MtIs w' b (meterT nmB t dp s) ∧ But b w w' := by
  refine Tm.ind (fun o n x a ih v dp s w hv hW hM hI h0 hd => ?_)
  have WL : Hid (∀ w, Calls Tryd.prog 34 #[v] w fun e w' => e = .returned (.bool (wellT nmB (.mk o n x a))) ∧ Below w.heap.size w w') := fun w => rwellT_at W _ v w hv
  rw [meterT]
  obtain ⟨c0, c1, c2, c3, rfl, hr⟩ := hv
  rw [RdT] at hr
  obtain ⟨rfl, rfl, rfl, hbd, ao, cap, rfl, hlc, hcz, hL⟩ := hr
  generalize hg : wellT nmB (.mk o n x a) = good at *
  obtain ⟨hI1, hI2⟩ := node_inv (g := good) hI h0 hd
  have ND : Hid (∀ w, MtIs w b s → Calls Tryd.prog 33 #[.pointer (some ⟨b, 0, none⟩), .int .i64 (dp : Nat), .bool good] w fun e w' => e = .returned (.tuple #[]) ∧ MtIs w' b (s.node dp good) ∧ But b w w') := fun w h => rnode_at b dp good s w h (by have := hI.n; omega) (by have := hI.d; omega) (by omega)
  have IH : Hid (∀ t ∈ a, ∀ v dp s w, TmV W t v → Below W.heap.size W w → MtIs w b s → Inv s → s.e = 0 → dp ≤ 41 →
    Calls Tryd.prog 20 #[.pointer (some ⟨b, 0, none⟩), v, .int .i64 (dp : Nat)] w fun e w' => e = .returned (.tuple #[]) ∧ MtIs w' b (meterT nmB t dp s) ∧ But b w w') := ih
  generalize hs1 : s.node dp good = s1 at *
  have hbw := mt_lt hM
  have hMa := mt_keep hM (bta0 w (.cells #[.int .i64 o, .int .i64 n, .string x, .slice ao a.length cap] 36))
  clear hs1 hg ih
  go_enter Tryd.func20, Tryd.ntmps20
  go_wp2_with (first
    | (go_at_call 34; refine (WL.out _).mono ?_; rintro e w2 ⟨rfl, hB2⟩; have hM2 := mt_keep hMa hB2)
    | (go_at_call 33; refine (ND.out _ hM2).mono ?_; rintro e w3 ⟨rfl, hM3, hU3⟩))
  have hU : But b w w3 := (But.of (ba2 hB2)).trans hU3
  obtain ⟨_, _, hd2, _⟩ := res_keep hB2
  have hsz2 : w.heap.size < w2.heap.size := by have := hB2.size; simp at this; omega
  have hbox : w3.cell? ⟨w.heap.size, 3, none⟩ = some (.slice ao a.length cap) := (hU3.cell hsz2 (by omega)).trans (hd2 3)
  have hsz3 : w.heap.size < w3.heap.size := Nat.lt_of_lt_of_le hsz2 hU3.size
  have hWs := hW.size
  clear WL ND hM hMa hB2 hM2 hU3 hd2 hI h0
  go_loopw [6] (fun i wr => ∃ (k : Nat) (st : St), k ≤ a.length ∧ i = .int .i64 k ∧ MtIs wr b st ∧ Inv st ∧ (st.e = 0 → dp ≤ 40) ∧ But b w wr ∧ wr.cell? ⟨w.heap.size, 3, none⟩ = some (.slice ao a.length cap) ∧ w.heap.size < wr.heap.size ∧ Hid (meterTL nmB (a.drop k) (dp + 1) st = meterTL nmB a (dp + 1) s1)) (fun i _ => a.length - (intOf i).toNat)
  case atStart => exact ⟨0, s1, Nat.zero_le _, rfl, hM3, hI1, hI2, hU, hbox, hsz3, rfl⟩
  case round =>
    obtain ⟨k, st, hk, rfl, hMr, hIr, hIe, hUr, hbr, hsr, HR⟩ := hrel
    obtain ⟨m0, m1, m2, n0, n1, n2⟩ := mt_cells hMr
    by_cases hlt : k < a.length
    · by_cases he : st.e = 0
      · have hWr : Below W.heap.size W wr := hW.trans (hUr.below hb hWs)
        obtain ⟨g, of, d0, d1, d2, d3, rfl, hg, q0, q1, q2, q3, hrd⟩ := hL.get k hlt
        rw [Nat.zero_add] at q0 q1 q2 q3
        have p0 := (hWr.cell (p := ⟨g, of + k * 4, none⟩) hg).trans q0
        have p1 := (hWr.cell (p := ⟨g, of + k * 4 + 1, none⟩) hg).trans q1
        have p2 := (hWr.cell (p := ⟨g, of + k * 4 + 2, none⟩) hg).trans q2
        have p3 := (hWr.cell (p := ⟨g, of + k * 4 + 3, none⟩) hg).trans q3
        have RC : Hid (Calls Tryd.prog 20 #[.pointer (some ⟨b, 0, none⟩), .agg #[d0, d1, d2, d3], .int .i64 ((dp : Int) + 1)] wr fun e w' => e = .returned (.tuple #[]) ∧ MtIs w' b (meterT nmB a[k] (dp + 1) st) ∧ But b wr w') :=
          IH.out a[k] (List.getElem_mem hlt) _ (dp + 1) st wr ⟨_, _, _, _, rfl, hrd⟩ hWr hMr hIr he (by have := hIe he; omega)
        have HN : Hid (meterTL nmB (a.drop (k + 1)) (dp + 1) (meterT nmB a[k] (dp + 1) st) = meterTL nmB a (dp + 1) s1) := by
          have := HR.out
          rw [List.drop_eq_getElem_cons hlt, meterTL, if_pos he] at this
          exact this
        have hIn : Inv (meterT nmB a[k] (dp + 1) st) := meterT_inv nmB _ _ _ hIr he (by have := hIe he; omega)
        have hdp : dp ≤ 40 := hIe he
        have he' : ((st.e : Int) == 0) = true := by simp; omega
        generalize meterT nmB a[k] (dp + 1) st = st2 at *
        clear IH HR q0 q1 q2 q3 hrd
        go_wp2_with (go_at_call 20; refine RC.out.mono ?_; rintro e w5 ⟨rfl, hM5, hU5⟩)
        go_roundw
        case rel => exact ⟨k + 1, st2, by omega, by go_num, hM5, hIn, fun _ => hdp, hUr.trans hU5, (hU5.cell hsr (by omega)).trans hbr, Nat.lt_of_lt_of_le hsr hU5.size, HN⟩
        case measure => simp [intOf]; omega
      · have he' : ((st.e : Int) == 0) = false := by simp; omega
        have HE : Hid (st = meterTL nmB a (dp + 1) s1) := by
          have := HR.out
          rw [meterTL_err _ _ _ _ he] at this
          exact this
        clear IH HR
        go_wp2
        go_end0
        exact ⟨rfl, by rw [← HE.out]; exact hMr, hUr⟩
    · obtain rfl : k = a.length := by omega
      have HE : Hid (st = meterTL nmB a (dp + 1) s1) := by
        have := HR.out
        rw [List.drop_of_length_le (Nat.le_refl _), meterTL] at this
        exact this
      clear IH HR
      go_wp2
      go_end0
      exact ⟨rfl, by rw [← HE.out]; exact hMr, hUr⟩
end Go.Proofs.YtncgmnijgdfenaaDoor.Gl
