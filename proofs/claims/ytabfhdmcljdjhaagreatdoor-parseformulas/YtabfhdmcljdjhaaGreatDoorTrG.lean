/- The document's meter. -/
import Derived.Test.YtabfhdmcljdjhaaGreatDoorTrD
namespace Go.Proofs.YtabfhdmcljdjhaaGreatDoor.Gl
open Go.RowKit
set_option linter.unusedVariables false

/-- the block b holds the meter s -/
def MtIs (w : World) (b : Nat) (s : St) : Prop := ∃ fr : Nat × Nat, w.heap[b]? = some (.cells #[.int .i64 s.n, .int .i64 s.d, .int .i64 s.e] 64 (0, 0))
/-- all but block b is kept -/
structure But (b : Nat) (w w' : World) : Prop where
  os : w'.os = w.os
  tape : w'.tape = w.tape
  output : w'.output = w.output
  size : w.heap.size ≤ w'.heap.size
  block : ∀ k, k < w.heap.size → k ≠ b → w'.heap[k]? = w.heap[k]?
theorem But.refl (b : Nat) (w : World) : But b w w := ⟨rfl, rfl, rfl, Nat.le_refl _, fun _ _ _ => rfl⟩
theorem But.trans {b : Nat} {w w1 w2 : World} (h : But b w w1) (k : But b w1 w2) : But b w w2 :=
  ⟨k.os.trans h.os, k.tape.trans h.tape, k.output.trans h.output, Nat.le_trans h.size k.size, fun i hi hn => (k.block i (Nat.lt_of_lt_of_le hi h.size) hn).trans (h.block i hi hn)⟩
theorem But.of {b : Nat} {w w' : World} (h : Below w.heap.size w w') : But b w w' := ⟨h.os, h.tape, h.output, h.size, fun i hi _ => h.block i hi⟩
theorem But.below {b B : Nat} {w w' : World} (h : But b w w') (hb : B ≤ b) (hs : B ≤ w.heap.size) : Below B w w' :=
  ⟨h.os, h.tape, h.output, h.size, fun i hi => h.block i (by omega) (by omega)⟩
theorem But.set {b : Nat} {w w' : World} (h : But b w w') (o : Nat) (v : Value) : But b w (w'.setCell ⟨b, o, none⟩ v) :=
  h.trans ⟨rfl, rfl, rfl, by simp [World.setCell], fun k hk hn => Below.heap_setCell _ _ _ _ hn⟩
theorem mt_cells {w : World} {b : Nat} {s : St} (h : MtIs w b s) : w.cell? ⟨b, 0, none⟩ = some (.int .i64 s.n) ∧ w.cell? ⟨b, 1, none⟩ = some (.int .i64 s.d) ∧ w.cell? ⟨b, 2, none⟩ = some (.int .i64 s.e) ∧ w.frozen? ⟨b, 0, none⟩ = false ∧ w.frozen? ⟨b, 1, none⟩ = false ∧ w.frozen? ⟨b, 2, none⟩ = false := by
  obtain ⟨_, h⟩ := h
  simp [World.cell?, World.frozen?, h]
theorem mt3 {w : World} {b : Nat} {s s' : St} {x y z : Int} (h : MtIs w b s) (h0 : x = (s'.n : Int)) (h1 : y = (s'.d : Int)) (h2 : z = (s'.e : Int)) : MtIs (((w.setCell ⟨b, 0, none⟩ (.int .i64 x)).setCell ⟨b, 1, none⟩ (.int .i64 y)).setCell ⟨b, 2, none⟩ (.int .i64 z)) b s' := by
  obtain ⟨fr, h⟩ := h
  subst h0; subst h1; subst h2
  refine ⟨fr, ?_⟩
  simp [World.setCell, Array.getElem?_modify, h]
theorem mt2 {w : World} {b : Nat} {s s' : St} {x y : Int} (h : MtIs w b s) (h0 : x = (s'.n : Int)) (h1 : y = (s'.d : Int)) (h2 : s.e = s'.e) : MtIs ((w.setCell ⟨b, 0, none⟩ (.int .i64 x)).setCell ⟨b, 1, none⟩ (.int .i64 y)) b s' := by
  obtain ⟨fr, h⟩ := h
  subst h0; subst h1
  refine ⟨fr, ?_⟩
  simp [World.setCell, Array.getElem?_modify, h, h2]
theorem But.s3 (b : Nat) (w : World) (x y z : Value) : But b w (((w.setCell ⟨b, 0, none⟩ x).setCell ⟨b, 1, none⟩ y).setCell ⟨b, 2, none⟩ z) := (((But.refl b w).set 0 x).set 1 y).set 2 z
theorem But.s2 (b : Nat) (w : World) (x y : Value) : But b w ((w.setCell ⟨b, 0, none⟩ x).setCell ⟨b, 1, none⟩ y) := ((But.refl b w).set 0 x).set 1 y
set_option maxHeartbeats 1000000 in
theorem rnode_at (b dp : Nat) (good : Bool) (s : St) (w : World) (hM : MtIs w b s) (hn : s.n ≤ 1000) (hd : s.d ≤ 1000) (hdp : dp ≤ 1000) :
    Calls Tryz.prog 48 #[.pointer (some ⟨b, 0, none⟩), .int .i64 dp, .bool good] w fun e w' => e = .returned (.tuple #[]) ∧ MtIs w' b (s.node dp good) ∧ But b w w' := by
  obtain ⟨c0, c1, c2, f0, f1, f2⟩ := mt_cells hM
  by_cases h1 : 500 < s.n + 1
  · have k1 : (500 : Int) < (s.n : Int) + 1 := by omega
    have HE : Hid ((s.node dp good).e = 73) := by show _ = _; unfold St.node; dsimp only; rw [if_pos h1]
    go_enter Tryz.func48, Tryz.ntmps48
    go_wp2
    all_goals
      go_end0
      refine ⟨rfl, mt3 hM ?_ ?_ ?_, But.s3 _ _ _ _ _⟩
      · show _ = ((s.n + 1 : Nat) : Int); omega
      · show _ = ((max s.d dp : Nat) : Int); omega
      · rw [HE.out]; rfl
  · have k1 : decide ((500 : Int) < (s.n : Int) + 1) = false := decide_eq_false (by omega)
    by_cases h2 : 40 < dp
    · have k2 : (40 : Int) < (dp : Int) := by omega
      have HE : Hid ((s.node dp good).e = 72) := by show _ = _; unfold St.node; dsimp only; rw [if_neg h1, if_pos h2]
      go_enter Tryz.func48, Tryz.ntmps48
      go_wp2
      all_goals
        go_end0
        refine ⟨rfl, mt3 hM ?_ ?_ ?_, But.s3 _ _ _ _ _⟩
        · show _ = ((s.n + 1 : Nat) : Int); omega
        · show _ = ((max s.d dp : Nat) : Int); omega
        · rw [HE.out]; rfl
    · have k2 : decide ((40 : Int) < (dp : Int)) = false := decide_eq_false (by omega)
      cases good with
      | true =>
        have HE : Hid (s.e = (s.node dp true).e) := by show _ = _; unfold St.node; dsimp only; rw [if_neg h1, if_neg h2, if_pos rfl]
        go_enter Tryz.func48, Tryz.ntmps48
        go_wp2
        all_goals
          go_end0
          refine ⟨rfl, mt2 hM ?_ ?_ HE.out, But.s2 _ _ _ _⟩
          · show _ = ((s.n + 1 : Nat) : Int); omega
          · show _ = ((max s.d dp : Nat) : Int); omega
      | false =>
        have HE : Hid ((s.node dp false).e = 3) := by show _ = _; unfold St.node; dsimp only; rw [if_neg h1, if_neg h2, if_neg (by decide)]
        go_enter Tryz.func48, Tryz.ntmps48
        go_wp2
        all_goals
          go_end0
          refine ⟨rfl, mt3 hM ?_ ?_ ?_, But.s3 _ _ _ _ _⟩
          · show _ = ((s.n + 1 : Nat) : Int); omega
          · show _ = ((max s.d dp : Nat) : Int); omega
          · rw [HE.out]; rfl
end Go.Proofs.YtabfhdmcljdjhaaGreatDoor.Gl
/- The document's term: a term's nodes. -/
namespace Go.Proofs.YtabfhdmcljdjhaaGreatDoor.Gl
open Go.RowKit
set_option linter.unusedVariables false

structure Inv (s : St) : Prop where
  n : s.n ≤ 501
  d : s.d ≤ 41
  m : s.e = 0 → s.n ≤ 500
theorem node_inv {s : St} {dp : Nat} {g : Bool} (h : Inv s) (h0 : s.e = 0) (hd : dp ≤ 41) : Inv (s.node dp g) ∧ ((s.node dp g).e = 0 → dp ≤ 40) := by
  have hn := h.m h0
  have hdd := h.d
  unfold St.node
  refine ⟨⟨(show s.n + 1 ≤ 501 by omega), (show max s.d dp ≤ 41 by omega), fun he => ?_⟩, fun he => ?_⟩
  · show s.n + 1 ≤ 500
    dsimp only at he
    split at he
    · cases he
    · omega
  · dsimp only at he
    split at he
    · cases he
    · split at he
      · cases he
      · omega
theorem meterTL_inv {nm : ByteArray → Bool} {l : List Tm} (hl : ∀ t ∈ l, ∀ dp s, Inv s → s.e = 0 → dp ≤ 41 → Inv (meterT nm t dp s)) (dp : Nat) : ∀ s, Inv s → (s.e = 0 → dp ≤ 41) → Inv (meterTL nm l dp s) := by
  induction l with
  | nil => intro s h _; rw [meterTL]; exact h
  | cons t r ih =>
    intro s h hd
    rw [meterTL]
    split
    · rename_i h0
      exact ih (fun u hu => hl u (List.mem_cons_of_mem _ hu)) _ (hl t (List.mem_cons_self ..) dp s h h0 (hd h0)) (fun _ => hd h0)
    · exact h
theorem meterT_inv (nm : ByteArray → Bool) : ∀ t dp s, Inv s → s.e = 0 → dp ≤ 41 → Inv (meterT nm t dp s) := by
  refine Tm.ind (fun o n x a ih dp s h h0 hd => ?_)
  rw [meterT]
  obtain ⟨h1, h2⟩ := node_inv (g := wellT nm (.mk o n x a)) h h0 hd
  exact meterTL_inv ih (dp + 1) _ h1 (fun he => by have := h2 he; omega)
theorem meterFL_inv {nm : ByteArray → Bool} {l : List Fm} (hl : ∀ t ∈ l, ∀ dp s, Inv s → s.e = 0 → dp ≤ 41 → Inv (meterF nm t dp s)) (dp : Nat) : ∀ s, Inv s → (s.e = 0 → dp ≤ 41) → Inv (meterFL nm l dp s) := by
  induction l with
  | nil => intro s h _; rw [meterFL]; exact h
  | cons t r ih =>
    intro s h hd
    rw [meterFL]
    split
    · rename_i h0
      exact ih (fun u hu => hl u (List.mem_cons_of_mem _ hu)) _ (hl t (List.mem_cons_self ..) dp s h h0 (hd h0)) (fun _ => hd h0)
    · exact h
theorem meterF_inv (nm : ByteArray → Bool) : ∀ f dp s, Inv s → s.e = 0 → dp ≤ 41 → Inv (meterF nm f dp s) := by
  refine Fm.ind (fun o x m t a ih dp s h h0 hd => ?_)
  rw [meterF]
  obtain ⟨h1, h2⟩ := node_inv (g := wellF nm (.mk o x m t a)) h h0 hd
  have h3 := meterTL_inv (nm := nm) (l := t) (fun u _ => meterT_inv nm u) (dp + 1) _ h1 (fun he => by have := h2 he; omega)
  refine meterFL_inv ih (dp + 1) _ h3 (fun he => ?_)
  have : (s.node dp (wellF nm (.mk o x m t a))).e = 0 := Decidable.byContradiction (fun hc => by rw [meterTL_err _ _ _ _ hc] at he; exact hc he)
  have := h2 this
  omega
theorem mt_keep {w w' : World} {b : Nat} {s : St} (h : MtIs w b s) (hb : Below w.heap.size w w') : MtIs w' b s := by
  obtain ⟨fr, h⟩ := h
  exact ⟨fr, (hb.block b (Array.getElem?_eq_some_iff.1 h).1).trans h⟩
theorem mt_lt {w : World} {b : Nat} {s : St} (h : MtIs w b s) : b < w.heap.size := by
  obtain ⟨fr, h⟩ := h
  exact (Array.getElem?_eq_some_iff.1 h).1
theorem But.cell {b : Nat} {w w' : World} (h : But b w w') {g o : Nat} (hg : g < w.heap.size) (hn : g ≠ b) : w'.cell? ⟨g, o, none⟩ = w.cell? ⟨g, o, none⟩ := World.cell?_of_block (w := w) (h.block g hg hn)
set_option maxHeartbeats 2000000 in
theorem rterm_at (W : World) (b : Nat) (hb : W.heap.size ≤ b) : ∀ t v dp s w, TmV W t v → Below W.heap.size W w → MtIs w b s → Inv s → s.e = 0 → dp ≤ 41 →
    Calls Tryz.prog 26 #[.pointer (some ⟨b, 0, none⟩), v, .int .i64 (dp : Nat)] w fun e w' => e = .returned (.tuple #[]) ∧ MtIs w' b (meterT nmB t dp s) ∧ But b w w' := by
  refine Tm.ind (fun o n x a ih v dp s w hv hW hM hI h0 hd => ?_)
  have WL : Hid (∀ w, Calls Tryz.prog 49 #[v] w fun e w' => e = .returned (.bool (wellT nmB (.mk o n x a))) ∧ Below w.heap.size w w') := fun w => rwellT_at W _ v w hv
  rw [meterT]
  obtain ⟨c0, c1, c2, c3, rfl, hr⟩ := hv
  rw [RdT] at hr
  obtain ⟨rfl, rfl, rfl, hbd, ao, cap, rfl, hlc, hcz, hL⟩ := hr
  generalize hg : wellT nmB (.mk o n x a) = good at *
  obtain ⟨hI1, hI2⟩ := node_inv (g := good) hI h0 hd
  have ND : Hid (∀ w, MtIs w b s → Calls Tryz.prog 48 #[.pointer (some ⟨b, 0, none⟩), .int .i64 (dp : Nat), .bool good] w fun e w' => e = .returned (.tuple #[]) ∧ MtIs w' b (s.node dp good) ∧ But b w w') := fun w h => rnode_at b dp good s w h (by have := hI.n; omega) (by have := hI.d; omega) (by omega)
  have IH : Hid (∀ t ∈ a, ∀ v dp s w, TmV W t v → Below W.heap.size W w → MtIs w b s → Inv s → s.e = 0 → dp ≤ 41 →
    Calls Tryz.prog 26 #[.pointer (some ⟨b, 0, none⟩), v, .int .i64 (dp : Nat)] w fun e w' => e = .returned (.tuple #[]) ∧ MtIs w' b (meterT nmB t dp s) ∧ But b w w') := ih
  generalize hs1 : s.node dp good = s1 at *
  have hbw := mt_lt hM
  have hMa := mt_keep hM (bta0 w (.cells #[.int .i64 o, .int .i64 n, .string x, .slice ao a.length cap] 43))
  clear hs1 hg ih
  go_enter Tryz.func26, Tryz.ntmps26
  go_wp2_with (first
    | (go_at_call 49; refine (WL.out _).mono ?_; rintro e w2 ⟨rfl, hB2⟩; have hM2 := mt_keep hMa hB2)
    | (go_at_call 48; refine (ND.out _ hM2).mono ?_; rintro e w3 ⟨rfl, hM3, hU3⟩))
  have hU : But b w w3 := (But.of (ba2 hB2)).trans hU3
  obtain ⟨_, _, hd2, _⟩ := res_keep hB2
  have hsz2 : w.heap.size < w2.heap.size := by have := hB2.size; simp at this; omega
  have hbox : w3.cell? ⟨w.heap.size, 3, none⟩ = some (.slice ao a.length cap) := (hU3.cell hsz2 (by omega)).trans (hd2 3)
  have hsz3 : w.heap.size < w3.heap.size := Nat.lt_of_lt_of_le hsz2 hU3.size
  have hWs := hW.size
  clear WL ND hM hMa hB2 hM2 hU3 hd2 hI h0
  go_loopw [6] (fun i wr => ∃ (k : Nat) (st : St), k ≤ a.length ∧ i = .int .i64 k ∧ MtIs wr b st ∧ Inv st ∧ (st.e = 0 → dp ≤ 40) ∧ But b w wr ∧ wr.cell? ⟨w.heap.size, 3, none⟩ = some (.slice ao a.length cap) ∧ w.heap.size < wr.heap.size ∧ Hid (meterTL nmB (a.drop k) (dp + 1) st = meterTL nmB a (dp + 1) s1)) (fun i _ => a.length - (intOf i).toNat)
  case atStart => exact ⟨0, s1, Nat.zero_le _, rfl, hM3, hI1, hI2, hU, hbox, hsz3, rfl⟩
  case round =>
    obtain ⟨k, st, hk, rfl, hMr, hIr, hIe, hUr, hbr, hsr, HR⟩ := hrel
    obtain ⟨m0, m1, m2, n0, n1, n2⟩ := mt_cells hMr
    by_cases hlt : k < a.length
    · by_cases he : st.e = 0
      · have hWr : Below W.heap.size W wr := hW.trans (hUr.below hb hWs)
        obtain ⟨g, of, d0, d1, d2, d3, rfl, hg, q0, q1, q2, q3, hrd⟩ := hL.get k hlt
        rw [Nat.zero_add] at q0 q1 q2 q3
        have p0 := (hWr.cell (p := ⟨g, of + k * 4, none⟩) hg).trans q0
        have p1 := (hWr.cell (p := ⟨g, of + k * 4 + 1, none⟩) hg).trans q1
        have p2 := (hWr.cell (p := ⟨g, of + k * 4 + 2, none⟩) hg).trans q2
        have p3 := (hWr.cell (p := ⟨g, of + k * 4 + 3, none⟩) hg).trans q3
        have RC : Hid (Calls Tryz.prog 26 #[.pointer (some ⟨b, 0, none⟩), .agg #[d0, d1, d2, d3], .int .i64 ((dp : Int) + 1)] wr fun e w' => e = .returned (.tuple #[]) ∧ MtIs w' b (meterT nmB a[k] (dp + 1) st) ∧ But b wr w') :=
          IH.out a[k] (List.getElem_mem hlt) _ (dp + 1) st wr ⟨_, _, _, _, rfl, hrd⟩ hWr hMr hIr he (by have := hIe he; omega)
        have HN : Hid (meterTL nmB (a.drop (k + 1)) (dp + 1) (meterT nmB a[k] (dp + 1) st) = meterTL nmB a (dp + 1) s1) := by
          have := HR.out
          rw [List.drop_eq_getElem_cons hlt, meterTL, if_pos he] at this
          exact this
        have hIn : Inv (meterT nmB a[k] (dp + 1) st) := meterT_inv nmB _ _ _ hIr he (by have := hIe he; omega)
        have hdp : dp ≤ 40 := hIe he
        have he' : ((st.e : Int) == 0) = true := by simp; omega
        generalize meterT nmB a[k] (dp + 1) st = st2 at *
        clear IH HR q0 q1 q2 q3 hrd
        go_wp2_with (go_at_call 26; refine RC.out.mono ?_; rintro e w5 ⟨rfl, hM5, hU5⟩)
        go_roundw
        case rel => exact ⟨k + 1, st2, by omega, by go_num, hM5, hIn, fun _ => hdp, hUr.trans hU5, (hU5.cell hsr (by omega)).trans hbr, Nat.lt_of_lt_of_le hsr hU5.size, HN⟩
        case measure => simp [intOf]; omega
      · have he' : ((st.e : Int) == 0) = false := by simp; omega
        have HE : Hid (st = meterTL nmB a (dp + 1) s1) := by
          have := HR.out
          rw [meterTL_err _ _ _ _ he] at this
          exact this
        clear IH HR
        go_wp2
        go_end0
        exact ⟨rfl, by rw [← HE.out]; exact hMr, hUr⟩
    · obtain rfl : k = a.length := by omega
      have HE : Hid (st = meterTL nmB a (dp + 1) s1) := by
        have := HR.out
        rw [List.drop_of_length_le (Nat.le_refl _), meterTL] at this
        exact this
      clear IH HR
      go_wp2
      go_end0
      exact ⟨rfl, by rw [← HE.out]; exact hMr, hUr⟩
end Go.Proofs.YtabfhdmcljdjhaaGreatDoor.Gl
/- The document's formula, Measure, Check. -/
namespace Go.Proofs.YtabfhdmcljdjhaaGreatDoor.Gl
open Go.RowKit
set_option linter.unusedVariables false

set_option maxHeartbeats 4000000 in
theorem rformula_at (W : World) (b : Nat) (hb : W.heap.size ≤ b) : ∀ f v dp s w, FmV W f v → Below W.heap.size W w → MtIs w b s → Inv s → s.e = 0 → dp ≤ 41 →
    Calls Tryz.prog 43 #[.pointer (some ⟨b, 0, none⟩), v, .int .i64 (dp : Nat)] w fun e w' => e = .returned (.tuple #[]) ∧ MtIs w' b (meterF nmB f dp s) ∧ But b w w' := by
  refine Fm.ind (fun o x m t a ih v dp s w hv hW hM hI h0 hd => ?_)
  have WL : Hid (∀ w, Calls Tryz.prog 71 #[v] w fun e w' => e = .returned (.bool (wellF nmB (.mk o x m t a))) ∧ Below w.heap.size w w') := fun w => rwellF_at W _ v w hv
  rw [meterF]
  obtain ⟨c0, c1, c2, c3, c4, rfl, hr⟩ := hv
  rw [RdF] at hr
  obtain ⟨rfl, rfl, rfl, hbd, ⟨bo, ct, rfl, hlt1, hct, hLT⟩, ao, ca, rfl, hlc, hcz, hLA⟩ := hr
  generalize hg : wellF nmB (.mk o x m t a) = good at *
  obtain ⟨hI1, hI2⟩ := node_inv (g := good) hI h0 hd
  have ND : Hid (∀ w, MtIs w b s → Calls Tryz.prog 48 #[.pointer (some ⟨b, 0, none⟩), .int .i64 (dp : Nat), .bool good] w fun e w' => e = .returned (.tuple #[]) ∧ MtIs w' b (s.node dp good) ∧ But b w w') := fun w h => rnode_at b dp good s w h (by have := hI.n; omega) (by have := hI.d; omega) (by omega)
  have IH : Hid (∀ f ∈ a, ∀ v dp s w, FmV W f v → Below W.heap.size W w → MtIs w b s → Inv s → s.e = 0 → dp ≤ 41 →
    Calls Tryz.prog 43 #[.pointer (some ⟨b, 0, none⟩), v, .int .i64 (dp : Nat)] w fun e w' => e = .returned (.tuple #[]) ∧ MtIs w' b (meterF nmB f dp s) ∧ But b w w') := ih
  have TH : Hid (∀ t v dp s w, TmV W t v → Below W.heap.size W w → MtIs w b s → Inv s → s.e = 0 → dp ≤ 41 →
    Calls Tryz.prog 26 #[.pointer (some ⟨b, 0, none⟩), v, .int .i64 (dp : Nat)] w fun e w' => e = .returned (.tuple #[]) ∧ MtIs w' b (meterT nmB t dp s) ∧ But b w w') := rterm_at W b hb
  generalize hs1 : s.node dp good = s1 at *
  obtain ⟨S, hS⟩ : ∃ S, meterTL nmB t (dp + 1) s1 = S := ⟨_, rfl⟩
  rw [hS]
  have HS : Hid (meterTL nmB t (dp + 1) s1 = S) := hS
  have hIS : Inv S := by rw [← hS]; exact meterTL_inv (fun u _ => meterT_inv nmB u) (dp + 1) _ hI1 (fun he => by have := hI2 he; omega)
  have hIeS : S.e = 0 → dp ≤ 40 := fun he => hI2 (Decidable.byContradiction (fun hc => by rw [← hS, meterTL_err _ _ _ _ hc] at he; exact hc he))
  have hbw := mt_lt hM
  have hMa := mt_keep hM (bta0 w (.cells #[.int .i64 o, .string x, .int .i64 m, .slice bo t.length ct, .slice ao a.length ca] 26))
  clear hs1 hg ih hS
  go_enter Tryz.func43, Tryz.ntmps43
  go_wp2_with (first
    | (go_at_call 71; refine (WL.out _).mono ?_; rintro e w2 ⟨rfl, hB2⟩; have hM2 := mt_keep hMa hB2)
    | (go_at_call 48; refine (ND.out _ hM2).mono ?_; rintro e w3 ⟨rfl, hM3, hU3⟩))
  have hU : But b w w3 := (But.of (ba2 hB2)).trans hU3
  obtain ⟨_, _, hd2, _⟩ := res_keep hB2
  have hsz2 : w.heap.size < w2.heap.size := by have := hB2.size; simp at this; omega
  have hbox3 : w3.cell? ⟨w.heap.size, 3, none⟩ = some (.slice bo t.length ct) := (hU3.cell hsz2 (by omega)).trans (hd2 3)
  have hbox4 : w3.cell? ⟨w.heap.size, 4, none⟩ = some (.slice ao a.length ca) := (hU3.cell hsz2 (by omega)).trans (hd2 4)
  have hsz3 : w.heap.size < w3.heap.size := Nat.lt_of_lt_of_le hsz2 hU3.size
  have hWs := hW.size
  clear WL ND hM hMa hB2 hM2 hU3 hd2 hI h0
  go_loopw [6] (fun i wr => ∃ (k : Nat) (st : St), k ≤ t.length ∧ i = .int .i64 k ∧ MtIs wr b st ∧ Inv st ∧ (st.e = 0 → dp ≤ 40) ∧ But b w wr ∧ wr.cell? ⟨w.heap.size, 3, none⟩ = some (.slice bo t.length ct) ∧ wr.cell? ⟨w.heap.size, 4, none⟩ = some (.slice ao a.length ca) ∧ w.heap.size < wr.heap.size ∧ Hid (meterTL nmB (t.drop k) (dp + 1) st = S)) (fun i _ => t.length - (intOf i).toNat)
  case atStart => exact ⟨0, s1, Nat.zero_le _, rfl, hM3, hI1, hI2, hU, hbox3, hbox4, hsz3, HS⟩
  case round =>
    obtain ⟨k, st, hk, rfl, hMr, hIr, hIe, hUr, hbr3, hbr4, hsr, HR⟩ := hrel
    obtain ⟨m0, m1, m2, n0, n1, n2⟩ := mt_cells hMr
    by_cases hlt : k < t.length
    · by_cases he : st.e = 0
      · have hWr : Below W.heap.size W wr := hW.trans (hUr.below hb hWs)
        obtain ⟨g, of, d0, d1, d2, d3, rfl, hg, q0, q1, q2, q3, hrd⟩ := hLT.get k hlt
        rw [Nat.zero_add] at q0 q1 q2 q3
        have p0 := (hWr.cell (p := ⟨g, of + k * 4, none⟩) hg).trans q0
        have p1 := (hWr.cell (p := ⟨g, of + k * 4 + 1, none⟩) hg).trans q1
        have p2 := (hWr.cell (p := ⟨g, of + k * 4 + 2, none⟩) hg).trans q2
        have p3 := (hWr.cell (p := ⟨g, of + k * 4 + 3, none⟩) hg).trans q3
        have RC : Hid (Calls Tryz.prog 26 #[.pointer (some ⟨b, 0, none⟩), .agg #[d0, d1, d2, d3], .int .i64 ((dp : Int) + 1)] wr fun e w' => e = .returned (.tuple #[]) ∧ MtIs w' b (meterT nmB t[k] (dp + 1) st) ∧ But b wr w') :=
          TH.out t[k] _ (dp + 1) st wr ⟨_, _, _, _, rfl, hrd⟩ hWr hMr hIr he (by have := hIe he; omega)
        have HN : Hid (meterTL nmB (t.drop (k + 1)) (dp + 1) (meterT nmB t[k] (dp + 1) st) = S) := by
          have := HR.out
          rw [List.drop_eq_getElem_cons hlt, meterTL, if_pos he] at this
          exact this
        have hIn : Inv (meterT nmB t[k] (dp + 1) st) := meterT_inv nmB _ _ _ hIr he (by have := hIe he; omega)
        have hdp : dp ≤ 40 := hIe he
        have he' : ((st.e : Int) == 0) = true := by simp; omega
        generalize meterT nmB t[k] (dp + 1) st = st2 at *
        clear IH TH HR q0 q1 q2 q3 hrd
        go_wp2_with (go_at_call 26; refine RC.out.mono ?_; rintro e w5 ⟨rfl, hM5, hU5⟩)
        go_roundw
        case rel => exact ⟨k + 1, st2, by omega, by go_num, hM5, hIn, fun _ => hdp, hUr.trans hU5, (hU5.cell hsr (by omega)).trans hbr3, (hU5.cell hsr (by omega)).trans hbr4, Nat.lt_of_lt_of_le hsr hU5.size, HN⟩
        case measure => simp [intOf]; omega
      · have he' : ((st.e : Int) == 0) = false := by simp; omega
        obtain rfl : S = st := by
          have := HR.out
          rw [meterTL_err _ _ _ _ he] at this
          exact this.symm
        have hMS := hMr
        clear TH HR HS hM3 hU hbox3 hbox4 hsz3
        go_wp2
        obtain ⟨wv, hwv⟩ : ∃ wv, wv = wr := ⟨_, rfl⟩
        subst hwv
        go_loopw [7] (fun i wr => ∃ (k : Nat) (st : St), k ≤ a.length ∧ i = .int .i64 k ∧ MtIs wr b st ∧ Inv st ∧ (st.e = 0 → dp ≤ 40) ∧ But b w wr ∧ wr.cell? ⟨w.heap.size, 4, none⟩ = some (.slice ao a.length ca) ∧ w.heap.size < wr.heap.size ∧ Hid (meterFL nmB (a.drop k) (dp + 1) st = meterFL nmB a (dp + 1) S)) (fun i _ => a.length - (intOf i).toNat)
        case atStart => exact ⟨0, S, Nat.zero_le _, rfl, hMS, hIS, hIeS, hUr, hbr4, hsr, rfl⟩
        case round =>
          obtain ⟨k, st, hk, rfl, hMr, hIr, hIe, hUr, hbr, hsr, HR⟩ := hrel
          obtain ⟨m0, m1, m2, n0, n1, n2⟩ := mt_cells hMr
          by_cases hlt : k < a.length
          · by_cases he : st.e = 0
            · have hWr : Below W.heap.size W wr := hW.trans (hUr.below hb hWs)
              obtain ⟨g, of, d0, d1, d2, d3, d4, rfl, hg, q0, q1, q2, q3, q4, hrd⟩ := hLA.get k hlt
              rw [Nat.zero_add] at q0 q1 q2 q3 q4
              have p0 := (hWr.cell (p := ⟨g, of + k * 5, none⟩) hg).trans q0
              have p1 := (hWr.cell (p := ⟨g, of + k * 5 + 1, none⟩) hg).trans q1
              have p2 := (hWr.cell (p := ⟨g, of + k * 5 + 2, none⟩) hg).trans q2
              have p3 := (hWr.cell (p := ⟨g, of + k * 5 + 3, none⟩) hg).trans q3
              have p4 := (hWr.cell (p := ⟨g, of + k * 5 + 4, none⟩) hg).trans q4
              have RC : Hid (Calls Tryz.prog 43 #[.pointer (some ⟨b, 0, none⟩), .agg #[d0, d1, d2, d3, d4], .int .i64 ((dp : Int) + 1)] wr fun e w' => e = .returned (.tuple #[]) ∧ MtIs w' b (meterF nmB a[k] (dp + 1) st) ∧ But b wr w') :=
                IH.out a[k] (List.getElem_mem hlt) _ (dp + 1) st wr ⟨_, _, _, _, _, rfl, hrd⟩ hWr hMr hIr he (by have := hIe he; omega)
              have HN : Hid (meterFL nmB (a.drop (k + 1)) (dp + 1) (meterF nmB a[k] (dp + 1) st) = meterFL nmB a (dp + 1) S) := by
                have := HR.out
                rw [List.drop_eq_getElem_cons hlt, meterFL, if_pos he] at this
                exact this
              have hIn : Inv (meterF nmB a[k] (dp + 1) st) := meterF_inv nmB _ _ _ hIr he (by have := hIe he; omega)
              have hdp : dp ≤ 40 := hIe he
              have he' : ((st.e : Int) == 0) = true := by simp; omega
              generalize meterF nmB a[k] (dp + 1) st = st2 at *
              clear IH HR q0 q1 q2 q3 q4 hrd
              go_wp2_with (go_at_call 43; refine RC.out.mono ?_; rintro e w5 ⟨rfl, hM5, hU5⟩)
              go_roundw
              case rel => exact ⟨k + 1, st2, by omega, by go_num, hM5, hIn, fun _ => hdp, hUr.trans hU5, (hU5.cell hsr (by omega)).trans hbr, Nat.lt_of_lt_of_le hsr hU5.size, HN⟩
              case measure => simp [intOf]; omega
            · have he' : ((st.e : Int) == 0) = false := by simp; omega
              have HE : Hid (st = meterFL nmB a (dp + 1) S) := by
                have := HR.out
                rw [meterFL_err _ _ _ _ he] at this
                exact this
              clear IH HR
              go_wp2
              go_end0
              exact ⟨rfl, by rw [← HE.out]; exact hMr, hUr⟩
          · obtain rfl : k = a.length := by omega
            have HE : Hid (st = meterFL nmB a (dp + 1) S) := by
              have := HR.out
              rw [List.drop_of_length_le (Nat.le_refl _), meterFL] at this
              exact this
            clear IH HR
            go_wp2
            go_end0
            exact ⟨rfl, by rw [← HE.out]; exact hMr, hUr⟩
    · obtain rfl : k = t.length := by omega
      obtain rfl : S = st := by
        have := HR.out
        rw [List.drop_of_length_le (Nat.le_refl _), meterTL] at this
        exact this.symm
      have hMS := hMr
      clear TH HR HS hM3 hU hbox3 hbox4 hsz3
      go_wp2
      obtain ⟨wv, hwv⟩ : ∃ wv, wv = wr := ⟨_, rfl⟩
      subst hwv
      go_loopw [7] (fun i wr => ∃ (k : Nat) (st : St), k ≤ a.length ∧ i = .int .i64 k ∧ MtIs wr b st ∧ Inv st ∧ (st.e = 0 → dp ≤ 40) ∧ But b w wr ∧ wr.cell? ⟨w.heap.size, 4, none⟩ = some (.slice ao a.length ca) ∧ w.heap.size < wr.heap.size ∧ Hid (meterFL nmB (a.drop k) (dp + 1) st = meterFL nmB a (dp + 1) S)) (fun i _ => a.length - (intOf i).toNat)
      case atStart => exact ⟨0, S, Nat.zero_le _, rfl, hMS, hIS, hIeS, hUr, hbr4, hsr, rfl⟩
      case round =>
        obtain ⟨k, st, hk, rfl, hMr, hIr, hIe, hUr, hbr, hsr, HR⟩ := hrel
        obtain ⟨m0, m1, m2, n0, n1, n2⟩ := mt_cells hMr
        by_cases hlt : k < a.length
        · by_cases he : st.e = 0
          · have hWr : Below W.heap.size W wr := hW.trans (hUr.below hb hWs)
            obtain ⟨g, of, d0, d1, d2, d3, d4, rfl, hg, q0, q1, q2, q3, q4, hrd⟩ := hLA.get k hlt
            rw [Nat.zero_add] at q0 q1 q2 q3 q4
            have p0 := (hWr.cell (p := ⟨g, of + k * 5, none⟩) hg).trans q0
            have p1 := (hWr.cell (p := ⟨g, of + k * 5 + 1, none⟩) hg).trans q1
            have p2 := (hWr.cell (p := ⟨g, of + k * 5 + 2, none⟩) hg).trans q2
            have p3 := (hWr.cell (p := ⟨g, of + k * 5 + 3, none⟩) hg).trans q3
            have p4 := (hWr.cell (p := ⟨g, of + k * 5 + 4, none⟩) hg).trans q4
            have RC : Hid (Calls Tryz.prog 43 #[.pointer (some ⟨b, 0, none⟩), .agg #[d0, d1, d2, d3, d4], .int .i64 ((dp : Int) + 1)] wr fun e w' => e = .returned (.tuple #[]) ∧ MtIs w' b (meterF nmB a[k] (dp + 1) st) ∧ But b wr w') :=
              IH.out a[k] (List.getElem_mem hlt) _ (dp + 1) st wr ⟨_, _, _, _, _, rfl, hrd⟩ hWr hMr hIr he (by have := hIe he; omega)
            have HN : Hid (meterFL nmB (a.drop (k + 1)) (dp + 1) (meterF nmB a[k] (dp + 1) st) = meterFL nmB a (dp + 1) S) := by
              have := HR.out
              rw [List.drop_eq_getElem_cons hlt, meterFL, if_pos he] at this
              exact this
            have hIn : Inv (meterF nmB a[k] (dp + 1) st) := meterF_inv nmB _ _ _ hIr he (by have := hIe he; omega)
            have hdp : dp ≤ 40 := hIe he
            have he' : ((st.e : Int) == 0) = true := by simp; omega
            generalize meterF nmB a[k] (dp + 1) st = st2 at *
            clear IH HR q0 q1 q2 q3 q4 hrd
            go_wp2_with (go_at_call 43; refine RC.out.mono ?_; rintro e w5 ⟨rfl, hM5, hU5⟩)
            go_roundw
            case rel => exact ⟨k + 1, st2, by omega, by go_num, hM5, hIn, fun _ => hdp, hUr.trans hU5, (hU5.cell hsr (by omega)).trans hbr, Nat.lt_of_lt_of_le hsr hU5.size, HN⟩
            case measure => simp [intOf]; omega
          · have he' : ((st.e : Int) == 0) = false := by simp; omega
            have HE : Hid (st = meterFL nmB a (dp + 1) S) := by
              have := HR.out
              rw [meterFL_err _ _ _ _ he] at this
              exact this
            clear IH HR
            go_wp2
            go_end0
            exact ⟨rfl, by rw [← HE.out]; exact hMr, hUr⟩
        · obtain rfl : k = a.length := by omega
          have HE : Hid (st = meterFL nmB a (dp + 1) S) := by
            have := HR.out
            rw [List.drop_of_length_le (Nat.le_refl _), meterFL] at this
            exact this
          clear IH HR
          go_wp2
          go_end0
          exact ⟨rfl, by rw [← HE.out]; exact hMr, hUr⟩
end Go.Proofs.YtabfhdmcljdjhaaGreatDoor.Gl
