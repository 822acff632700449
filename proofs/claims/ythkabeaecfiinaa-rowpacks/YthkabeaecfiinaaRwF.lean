/- The program's cubes of a row; Pack, Leaves. -/
import Derived.Test.YthkabeaecfiinaaRwE
namespace Go.Proofs.Ythkabeaecfiinaa.Ro
open Go.RowKit
set_option linter.unusedVariables false

/-- a block that holds a cube -/
def Bx (w : World) (B : Nat) (m b t : Int) : Prop := w.heap[B]? = some (.cells #[.int .i64 m, .int .i64 b, .int .i64 t] 35 (0, 0))
theorem Bx.new (w : World) (m b t : Int) : Bx (w.alloc (.cells #[.int .i64 m, .int .i64 b, .int .i64 t] 35)) w.heap.size m b t := heap_alloc_new w _
theorem Bx.keep {w w' : World} {B : Nat} {m b t : Int} (h : Bx w B m b t) (hb : Below w.heap.size w w') : Bx w' B m b t := (hb.block B (Array.getElem?_eq_some_iff.1 h).1).trans h
theorem Bx.kp {w w' : World} {B : Nat} {m b t : Int} {r : Option Nat} (h : Bx w B m b t) (hk : Kp r w w') (hne : some B ≠ r) : Bx w' B m b t := (hk.block B (Array.getElem?_eq_some_iff.1 h).1 hne).trans h
theorem Bx.cells {w : World} {B : Nat} {m b t : Int} (h : Bx w B m b t) : w.cell? ⟨B, 0, none⟩ = some (.int .i64 m) ∧ w.cell? ⟨B, 1, none⟩ = some (.int .i64 b) ∧ w.cell? ⟨B, 2, none⟩ = some (.int .i64 t) ∧
    w.frozen? ⟨B, 0, none⟩ = false ∧ w.frozen? ⟨B, 1, none⟩ = false ∧ w.frozen? ⟨B, 2, none⟩ = false := by
  unfold Bx at h
  simp [World.cell?, World.frozen?, h]
theorem bx_set {w : World} {b : Nat} {vs : Array Value} {t : TypeId} (h : w.heap[b]? = some (Obj.cells vs t (0, 0))) (i : Nat) (v : Value) : (w.setCell ⟨b, i, none⟩ v).heap[b]? = some (Obj.cells (vs.setIfInBounds i v) t (0, 0)) := by
  obtain ⟨hlt, hk⟩ := Array.getElem?_eq_some_iff.1 h
  show (w.heap.modify b _)[b]? = _
  rw [Array.getElem?_eq_getElem (by rw [Array.size_modify]; exact hlt), Array.getElem_modify_self, hk]
  rfl
theorem Bx.set0 {w : World} {B : Nat} {m b t : Int} (h : Bx w B m b t) (x : Int) : Bx (w.setCell ⟨B, 0, none⟩ (.int .i64 x)) B x b t := bx_set h 0 _
theorem Bx.set1 {w : World} {B : Nat} {m b t : Int} (h : Bx w B m b t) (x : Int) : Bx (w.setCell ⟨B, 1, none⟩ (.int .i64 x)) B m x t := bx_set h 1 _
theorem Bx.set2 {w : World} {B : Nat} {m b t : Int} (h : Bx w B m b t) (x : Int) : Bx (w.setCell ⟨B, 2, none⟩ (.int .i64 x)) B m b x := bx_set h 2 _
theorem own_set {w : World} {base : Nat} {e : TypeId} {size : Nat} {v : Value} {n : Nat} {xs : List Value} (h : w.ownsRow base e size v n xs) {B i : Nat} (hne : v.ownBlock ≠ some B) (u : Value) : (w.setCell ⟨B, i, none⟩ u).ownsRow base e size v n xs := by
  obtain ⟨h1, h2⟩ := h
  refine ⟨h1, ?_⟩
  rcases h2 with h2 | ⟨g, cap, cur, rfl, b, c, d⟩
  · exact .inl h2
  · refine .inr ⟨g, cap, cur, rfl, b, ?_, d⟩
    rw [Below.heap_setCell _ _ _ g (by intro e; exact hne (by simp [Value.ownBlock, e]))]
    exact c
theorem RdZ.low {w : World} {g o n c : Nat} {zs : List Int} {H : Nat} (h : RdZ w (some ⟨g, o, none⟩) n c zs) (hH : H ≤ n) : RdZ w (some ⟨g, o, none⟩) H c (zs.take H) := by
  refine ⟨by rw [List.length_take, h.eqlen]; omega, by have := h.lecap; omega, h.lemax, h.isnil, fun i hi => ?_⟩
  obtain ⟨b, off, e, hc⟩ := h.cell i (by omega)
  refine ⟨b, off, e, ?_⟩
  rw [hc, List.getD_eq_getElem?_getD, List.getD_eq_getElem?_getD, List.getElem?_take, if_pos hi]
theorem RdZ.high {w : World} {g o n c : Nat} {zs : List Int} {H : Nat} (h : RdZ w (some ⟨g, o, none⟩) n c zs) (hH : H ≤ n) : RdZ w (some ⟨g, o + H, none⟩) (n - H) (c - H) (zs.drop H) := by
  refine ⟨by rw [List.length_drop, h.eqlen], by have := h.lecap; omega, by have := h.lemax; omega, (fun e => nomatch e), fun i hi => ?_⟩
  obtain ⟨b, off, e, hc⟩ := h.cell (H + i) (by omega)
  simp only [Option.some.injEq, Addr.mk.injEq, and_true] at e
  obtain ⟨rfl, rfl⟩ := e
  refine ⟨g, o + H, rfl, ?_⟩
  rw [Nat.add_assoc, hc, List.getD_eq_getElem?_getD, List.getD_eq_getElem?_getD, List.getElem?_drop]
theorem or_fin : ∀ k, k < 6 → ∀ m, m < 64 → m % 2 ^ (k + 1) = 0 → bits .or .i64 ((m : Nat) : Int) ((2 ^ k : Nat) : Int) = ((m + 2 ^ k : Nat) : Int) := by decide +kernel
def WalkOk (k : Nat) : Prop := ∀ (g o n c : Nat) (zs : List Int) (m b : Nat) (t0 : Int) (v : Value) (N : Nat) (O : List Cb) (base : Nat) (w : World), n = 2 ^ k → k ≤ 6 → m % n = 0 → b % n = 0 → m + n ≤ 64 → b + n ≤ 64 → RdZ w (some ⟨g, o, none⟩) n c zs → g < base →
    w.ownsRow base 35 3 v N (cellsC O) → base ≤ w.heap.size → N + n ≤ 128 →
    Calls Try.prog 21 #[v, .slice (some ⟨g, o, none⟩) n c, .agg #[.int .i64 (m : Nat), .int .i64 (b : Nat), .int .i64 t0]] w fun e w' => ∃ v', e = .returned v' ∧ w'.ownsRow base 35 3 v' (N + (cb k zs m b).length) (cellsC (O ++ cb k zs m b)) ∧
      Kp v.ownBlock w w' ∧ ∀ q, v'.ownBlock = some q → v.ownBlock = some q ∨ w.heap.size ≤ q
theorem walk_zero : WalkOk 0 := by
  intro g o n c zs m b t0 v N O base w hn hk hm0 hb0 hm hb h hg hO hbase hN
  have hn1 : n = 1 := by simpa using hn
  subst hn1
  have hcn := h.lecap
  have hcx := h.lemax
  obtain ⟨g', o', e, hc0⟩ := h.cell 0 (by omega)
  simp only [Option.some.injEq, Addr.mk.injEq, and_true] at e
  obtain ⟨rfl, rfl⟩ := e
  have hc : w.cell? ⟨g, o, none⟩ = some (.int .i64 (zs.getD 0 0)) := hc0
  have HE : Hid (∃ y, zs.getD 0 0 = y) := ⟨_, rfl⟩
  obtain ⟨y, hy⟩ := HE.out
  have HY : Hid (zs.getD 0 0 = y) := hy
  rw [hy] at hc
  have hgw : g < w.heap.size := by omega
  clear hy HE hn h hc0 hm0 hb0
  go_enter Try.func21, Try.ntmps21
  have hO2 : ∀ o1 o2, ((w.alloc o1).alloc o2).ownsRow base 35 3 v N (cellsC O) := fun o1 o2 => own_keep hO (bta (bal _ _) _)
  have hs2 : ∀ o1 o2, base ≤ ((w.alloc o1).alloc o2).heap.size := fun o1 o2 => by simp; omega
  go_wp2_with (at_builtin; refine wp_pushC _ base rfl (.tmp 17) (.tmp 19) rfl v N O rfl (w.heap.size + 1) ⟨m, b, y⟩ rfl (hO2 _ _) ?_ ?_ ?_ (hs2 _ _) (by omega) ?_; rotate_left 3; intro v' w' hO' hK' hq')
  go_wp2
  go_ret
  refine ⟨v', rfl, ?_, (Kp.of (r := v.ownBlock) (bta (bal w _) _)).trans hK' (fun q hq => .inl hq), fun q hq => ?_⟩
  · show World.ownsRow _ _ _ _ _ _ (cellsC (O ++ [⟨m, b, zs.getD 0 0⟩]))
    rw [HY.out]
    simpa [cellsC, cb] using hO'
  · rcases hq' q hq with h1 | h1
    · exact .inl h1
    · exact .inr (by simp at h1; omega)
set_option maxHeartbeats 1000000 in
theorem walk_step (k : Nat) (ih : WalkOk k) : WalkOk (k + 1) := by
  intro g o n c zs m b t0 v N O base w hn hk hm0 hb0 hm hb h hg hO hbase hN
  have hl := h.eqlen
  obtain ⟨H, hH⟩ : ∃ H, 2 ^ k = H := ⟨_, rfl⟩
  have hn2 : n = 2 * H := by rw [hn, pow_dbl, hH]; omega
  have hH1 : 0 < H := by rw [← hH]; exact Nat.pow_pos (by omega)
  have hH64 : H ≤ 64 := by omega
  have hne : ¬ ((n : Int) = 1) := by omega
  have hcn := h.lecap
  have hcx := h.lemax
  have hgw : g < w.heap.size := by omega
  have hlo : (zs.take H).length = H := by rw [List.length_take]; omega
  have hhi : (zs.drop H).length = H := by rw [List.length_drop]; omega
  have HCB : Hid (cb (k + 1) zs m b = if zs.take H = zs.drop H then cb k (zs.take H) m b else cb k (zs.take H) (m + H) b ++ cb k (zs.drop H) (m + H) (b + H)) := by
    rw [← hH]; rfl
  have hm1 : m % H = 0 := by rw [hn2] at hm0; exact Nat.mod_eq_zero_of_dvd (Nat.dvd_trans (Nat.dvd_mul_left H 2) (Nat.dvd_of_mod_eq_zero hm0))
  have hb1 : b % H = 0 := by rw [hn2] at hb0; exact Nat.mod_eq_zero_of_dvd (Nat.dvd_trans (Nat.dvd_mul_left H 2) (Nat.dvd_of_mod_eq_zero hb0))
  have IH : Hid (∀ (o c : Nat) (zs : List Int) (m b : Nat) (t0 : Int) (v : Value) (N : Nat) (O : List Cb) (w : World), m % H = 0 → b % H = 0 → m + H ≤ 64 → b + H ≤ 64 → RdZ w (some ⟨g, o, none⟩) H c zs →
    w.ownsRow base 35 3 v N (cellsC O) → base ≤ w.heap.size → N + H ≤ 128 →
    Calls Try.prog 21 #[v, .slice (some ⟨g, o, none⟩) H c, .agg #[.int .i64 (m : Nat), .int .i64 (b : Nat), .int .i64 t0]] w fun e w' => ∃ v', e = .returned v' ∧ w'.ownsRow base 35 3 v' (N + (cb k zs m b).length) (cellsC (O ++ cb k zs m b)) ∧
      Kp v.ownBlock w w' ∧ ∀ q, v'.ownBlock = some q → v.ownBlock = some q ∨ w.heap.size ≤ q) :=
    fun o c zs m b t0 v N O w h1 h2 h3 h4 h5 h6 h7 h8 => ih g o H c zs m b t0 v N O base w hH.symm (by omega) h1 h2 h3 h4 h5 hg h6 h7 h8
  have HLn : Hid (∀ (zs : List Int) m b, zs.length = H → (cb k zs m b).length ≤ H) := fun zs m b e => by rw [cb_len, ← hH]; exact cn_len k zs (by rw [hH]; exact e)
  have HLO : Hid ((zs.take H).length = H) := hlo
  have HHI : Hid ((zs.drop H).length = H) := hhi
  have hq : (n : Int).tdiv 2 = (H : Int) := by
    rw [hn2, Int.tdiv_eq_ediv_of_nonneg (by omega)]; omega
  have ko1 : bits .or .i64 (m : Int) (H : Int) = ((m + H : Nat) : Int) := by
    have := or_fin k (by omega) m (by omega) (by rw [← hn]; exact hm0)
    rw [hH] at this; exact this
  have ko2 : bits .or .i64 (b : Int) (H : Int) = ((b + H : Nat) : Int) := by
    have := or_fin k (by omega) b (by omega) (by rw [← hn]; exact hb0)
    rw [hH] at this; exact this
  have hm' : m + H + H ≤ 64 := by omega
  have hb' : b + H + H ≤ 64 := by omega
  have hmH : (m + H) % H = 0 := by rw [Nat.add_mod_right]; exact hm1
  have hbH : (b + H) % H = 0 := by rw [Nat.add_mod_right]; exact hb1
  have hHn : H ≤ n := by omega
  have hnH : n - H = H := by omega
  have hcH : H ≤ c := by omega
  have hN' : N + H + H ≤ 128 := by omega
  have hrl := h.low hHn
  have hrh := h.high hHn
  rw [hnH] at hrh
  have hov : ∀ q, v.ownBlock = some q → base ≤ q ∧ q < w.heap.size := fun q e => hO.lt q e
  clear hl hn hH hlo hhi ih hm0 hb0 hn2
  by_cases he : zs.take H = zs.drop H
  · have HE : Hid (zs.take H = zs.drop H) := he
    have HC : Hid (cb (k + 1) zs m b = cb k (zs.take H) m b) := by show _ = _; rw [HCB.out, if_pos he]
    clear he
    go_enter Try.func21, Try.ntmps21
    go_wp2
    go_quiet (fail)
    have hB1 : Below w.heap.size w ((w.alloc (.cells #[.int .i64 (m : Int), .int .i64 (b : Int), .int .i64 t0] 35)).drewN nq) := below_drewn (bal w _) nq
    have hX1 : Bx ((w.alloc (.cells #[.int .i64 (m : Int), .int .i64 (b : Int), .int .i64 t0] 35)).drewN nq) w.heap.size m b t0 := Bx.new w m b t0
    generalize (w.alloc (.cells #[.int .i64 (m : Int), .int .i64 (b : Int), .int .i64 t0] 35)).drewN nq = W1 at *
    go_wp2_with (first
      | (go_at_call 26; refine (eqi_at _ _ _ _ _ _ _ _ true _ (hrl.below (Nat.le_refl _) hB1) (hrh.below (Nat.le_refl _) hB1) ⟨fun _ => HE.out, fun _ => rfl⟩).mono ?_; rintro e w2 ⟨rfl, hB2⟩; have hX2 := hX1.keep hB2; have hW2 := bt2 hB1 hB2; obtain ⟨k0, k1, k2, f0, f1, f2⟩ := hX2.cells)
      | (go_at_call 21; refine (IH.out o c _ m b t0 v N O _ hm1 hb1 (by omega) (by omega) (hrl.below (Nat.le_refl _) hW2) (own_keep hO hW2) (Nat.le_trans hbase hW2.size) (by omega)).mono ?_; rintro e w3 ⟨v3, rfl, hO3, hK3, hq3⟩))
    go_ret
    refine ⟨v3, rfl, by rw [HC.out]; exact hO3, (Kp.of (r := v.ownBlock) hW2).trans hK3 (fun q hq => .inl hq), fun q hq => ?_⟩
    have hs2 := hW2.size
    rcases hq3 q hq with h1 | h1
    · exact .inl h1
    · exact .inr (by omega)
  · have HE : Hid (¬ zs.take H = zs.drop H) := he
    have HC : Hid (cb (k + 1) zs m b = cb k (zs.take H) (m + H) b ++ cb k (zs.drop H) (m + H) (b + H)) := by show _ = _; rw [HCB.out, if_neg he]
    have hvB : v.ownBlock ≠ some w.heap.size := fun e => by have := (hov _ e).2; omega
    clear he
    go_enter Try.func21, Try.ntmps21
    go_wp2
    go_quiet (fail)
    have hB1 : Below w.heap.size w ((w.alloc (.cells #[.int .i64 (m : Int), .int .i64 (b : Int), .int .i64 t0] 35)).drewN nq) := below_drewn (bal w _) nq
    have hX1 : Bx ((w.alloc (.cells #[.int .i64 (m : Int), .int .i64 (b : Int), .int .i64 t0] 35)).drewN nq) w.heap.size m b t0 := Bx.new w m b t0
    generalize (w.alloc (.cells #[.int .i64 (m : Int), .int .i64 (b : Int), .int .i64 t0] 35)).drewN nq = W1 at *
    go_wp2_with (first
      | (go_at_call 26; refine (eqi_at _ _ _ _ _ _ _ _ false _ (hrl.below (Nat.le_refl _) hB1) (hrh.below (Nat.le_refl _) hB1) ⟨fun e => (by cases e), fun e => absurd e HE.out⟩).mono ?_; rintro e w2 ⟨rfl, hB2⟩; have hX2 := hX1.keep hB2; have hW2 := bt2 hB1 hB2; obtain ⟨k0, k1, k2, f0, f1, f2⟩ := hX2.cells)
      | (go_at_call 21; have _t := q4; refine (IH.out (o + H) (c - H) _ (m + H) (b + H) t0 v4 _ _ _ hmH hbH hm' hb' hrh5 hO5 hs5 hN5).mono ?_; rintro e w6 ⟨v6, rfl, hO6, hK6, hq6⟩; clear q4)
      | (go_at_call 21
         have hX3 := hX2.set0 ((m + H : Nat) : Int)
         have hS3 : (w2.setCell ⟨w.heap.size, 0, none⟩ (.int .i64 ((m + H : Nat) : Int))).heap.size = w2.heap.size := by simp [World.setCell]
         have hZ3 : w.heap.size < w2.heap.size := (Array.getElem?_eq_some_iff.1 hX2).1
         have hK3 : Kp v.ownBlock w (w2.setCell ⟨w.heap.size, 0, none⟩ (.int .i64 ((m + H : Nat) : Int))) := (Kp.of hW2).set (Nat.le_refl _) _
         refine (IH.out o c _ (m + H) b t0 v N O _ hmH hb1 hm' (by omega) (hrl.kp hK3 (fun ad e => by simp only [Option.some.injEq] at e; subst e; intro e2; have := (hov _ e2.symm).1; simp at this; omega)) (own_set (own_keep hO hW2) hvB _) (by rw [hS3]; omega) (by omega)).mono ?_
         rintro e w4 ⟨v4, rfl, hO4, hK4, hq4⟩
         have hX4 := hX3.kp hK4 (fun e => hvB e.symm)
         have hK4' : Kp v.ownBlock w w4 := hK3.trans hK4 (fun q hq => .inl hq)
         have hs4 := hK4'.size
         have hv4 : v4.ownBlock ≠ some w.heap.size := fun e => by
           rcases hq4 _ e with h1 | h1
           · exact hvB h1
           · rw [hS3] at h1; omega
         have hK5 : Kp v.ownBlock w (w4.setCell ⟨w.heap.size, 1, none⟩ (.int .i64 ((b + H : Nat) : Int))) := hK4'.set (Nat.le_refl _) _
         have hS5 : (w4.setCell ⟨w.heap.size, 1, none⟩ (.int .i64 ((b + H : Nat) : Int))).heap.size = w4.heap.size := by simp [World.setCell]
         have hO5 := own_set (i := 1) hO4 hv4 (.int .i64 ((b + H : Nat) : Int))
         have hrh5 := hrh.kp hK5 (fun ad e => by simp only [Option.some.injEq] at e; subst e; intro e2; have := (hov _ e2.symm).1; simp at this; omega)
         have hs5 : base ≤ (w4.setCell ⟨w.heap.size, 1, none⟩ (.int .i64 ((b + H : Nat) : Int))).heap.size := by rw [hS5]; omega
         have hN5 : N + (cb k (zs.take H) (m + H) b).length + H ≤ 128 := by have := HLn.out (zs.take H) (m + H) b HLO.out; omega
         obtain ⟨k0', k1', k2', f0', f1', f2'⟩ := hX4.cells
         have q4 : Hid True := trivial))
    go_ret
    refine ⟨v6, rfl, ?_, hK5.trans hK6 (fun q hq => ?_), fun q hq => ?_⟩
    · rw [HC.out, List.length_append, ← Nat.add_assoc, ← List.append_assoc]; exact hO6
    · rcases hq4 q hq with h1 | h1
      · exact .inl h1
      · exact .inr (by rw [hS3] at h1; omega)
    · rcases hq6 q hq with h1 | h1
      · rcases hq4 q h1 with h2 | h2
        · exact .inl h2
        · exact .inr (by rw [hS3] at h2; omega)
      · exact .inr (by rw [hS5] at h1; omega)
theorem walk_at (k : Nat) : WalkOk k := by
  induction k with
  | zero => exact walk_zero
  | succ k ih => exact walk_step k ih
end Go.Proofs.Ythkabeaecfiinaa.Ro
