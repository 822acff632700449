/- What the landed parse.Formula answers. -/
import Derived.Test.YtabfhdmcljdjhaaDoorPcS
namespace Go.Proofs.YtabfhdmcljdjhaaDoor.Gl
open Go.RowKit
set_option linter.unusedVariables false
set_option linter.unusedSimpArgs false

theorem tok_bad {s : ByteArray} {p e : Nat} (h : tok s p = .bad e) : e = 50 ∨ e = 6 ∨ e = 52 ∨ e = 51 := by
  rcases tok_cases s p with ⟨_, e'⟩ | ⟨_, ⟨_, e'⟩ | ⟨_, ⟨_, ⟨_, e'⟩ | ⟨_, _, e'⟩ | ⟨_, _, e'⟩⟩ | ⟨_, _, ⟨_, e'⟩ | ⟨_, e'⟩⟩ | ⟨_, _, _, e'⟩ | ⟨_, _, _, ⟨_, e'⟩ | ⟨_, e'⟩⟩⟩⟩ <;> rw [h] at e' <;> cases e' <;> simp
theorem Lx.cs {s : ByteArray} {p c q : Nat} {ws : List Wd} {f : Option (Nat × Nat)} (h : Lx s p ws f) : ∀ c q, f = some (c, q) → c = 50 ∨ c = 6 ∨ c = 52 ∨ c = 51 := by
  induction h with
  | done => intro c q e; cases e
  | blank _ _ _ ih => exact ih
  | bad _ b => intro c q e; cases e; exact tok_bad b
  | word _ _ _ ih => exact ih
abbrev WHC (s : ByteArray) (w : World) (o : Option Fm) (c b k : Nat) : Prop := Calls Tryd.prog 13 #[.string s, .func (.func 14) #[] #[], .func (.func 12) #[] #[]] w fun e w' => ∃ v, e = .returned (.tuple #[v, fau c b k]) ∧ FmA w.heap.size w' o v ∧ Below w.heap.size w w'
theorem fma_none (B : Nat) (w : World) : FmA B w none nilF := ⟨_, _, _, _, _, _, _, _, _, rfl, fun _ => rfl, fun _ e => by cases e⟩
theorem whole_any {s : ByteArray} {o : Option Fm} {c b k : Nat} (h : An s o c b k) (w : World) (hS : Sg w) (h64 : s.size ≤ 9223372036854775807) : WHC s w o c b k := by
  cases h with
  | long hl => exact (whole_fault s w 70 0 0 (by decide) hS (fun w hS => lexC.long s w hS hl h64)).mono fun e w' ⟨h1, h2⟩ => ⟨_, h1, fma_none _ _, h2⟩
  | @lex a c p hs hl =>
    have hc := hl.cs (c := 0) (q := 0) _ _ rfl
    exact (whole_fault s w c b _ (by omega) hS (fun w hS => lexC.bad s a c b w hS hs hl)).mono fun e w' ⟨h1, h2⟩ => ⟨_, h1, fma_none _ _, h2⟩
  | @bad a y q hs hl hf =>
    cases hf with
    | bad h => exact (whole_bad s w a _ hs hl (.no h) hS c q _ _ rfl rfl rfl).mono fun e w' ⟨h1, h2⟩ => ⟨_, h1, fma_none _ _, h2⟩
    | rest h hq => exact (whole_rest s w a _ hs hl (.ok h) hS _ q _ _ hq rfl rfl rfl).mono fun e w' ⟨h1, h2⟩ => ⟨_, h1, fma_none _ _, h2⟩
  | @many a f q hs hl hf hc =>
    cases hf with
    | ok h => exact (whole_many s w a _ hs hl (.ok h) hS f _ rfl rfl hc).mono fun e w' ⟨h1, h2⟩ => ⟨_, h1, fma_none _ _, h2⟩
  | @ok a f q hs hl hf hc =>
    cases hf with
    | ok h => exact whole_ok s w a _ hs hl (.ok h) hS f rfl hc
set_option maxRecDepth 100000 in
set_option maxHeartbeats 2000000 in
theorem formula_any {s : ByteArray} {o : Option Fm} {c b k : Nat} (h : An s o c b k) (w : World) (hS : Sg w) (h64 : s.size ≤ 9223372036854775807) :
    Calls Tryd.prog 9 #[.string s] w fun e w' => ∃ v, e = .returned (.tuple #[v, fau c b k]) ∧ FmA w.heap.size w' o v ∧ Below w.heap.size w w' := by
  have WC := mkHid (whole_any h ((w.alloc (.cells zF 27)).alloc (.cells zA 36)) ((hS.alloc _).alloc _) h64)
  have hB2 : Below w.heap.size w ((w.alloc (.cells zF 27)).alloc (.cells zA 36)) := bta (bal w _) _
  have hF1 : Rb ((w.alloc (.cells zF 27)).alloc (.cells zA 36)) w.heap.size zF 27 := (rb_new w zF 27).keep (bal _ _)
  have hF2 : Rb ((w.alloc (.cells zF 27)).alloc (.cells zA 36)) (w.heap.size + 1) zA 36 := by
    have := rb_new (w.alloc (.cells zF 27)) zA 36
    rwa [World.size_alloc] at this
  clear h hS h64
  go_enter Tryd.func9, Tryd.ntmps9
  go_wp2_with (go_at_call 13; refine (WC.out).mono ?_; rintro e w4 ⟨v, rfl, ⟨op, xs, m, bo, n1, c1, lo, ln, lc, rfl, hno, hso⟩, hB4⟩; have hF1z := hF1.keep hB4; have hF2z := hF2.keep hB4; have hBwz := bt2 hB2 hB4; have HNO := mkHid hno; have HSO := mkHid hso; clear hno hso; obtain ⟨a0, g0⟩ := txcell hF1z 0 _ rfl; obtain ⟨a1, g1⟩ := txcell hF1z 1 _ rfl; obtain ⟨a2, g2⟩ := txcell hF1z 2 _ rfl; obtain ⟨a3, g3⟩ := txcell hF1z 3 _ rfl; obtain ⟨a4, g4⟩ := txcell hF1z 4 _ rfl; obtain ⟨b0, f0⟩ := txcell hF2z 0 _ rfl; obtain ⟨b1, f1⟩ := txcell hF2z 1 _ rfl; obtain ⟨b2, f2⟩ := txcell hF2z 2 _ rfl)
  have hRa := (rb_five hF1z rfl (.int .i64 op) (.string xs) (.int .i64 m) (.slice bo n1 c1) (.slice lo ln lc)).st3 (X := w.heap.size + 1) (by omega) (.int .i64 (c : Nat)) (.int .i64 (b : Nat)) (.int .i64 (k : Nat))
  have hRb := rb_three (hF2z.st5 (X := w.heap.size) (by omega) (.int .i64 op) (.string xs) (.int .i64 m) (.slice bo n1 c1) (.slice lo ln lc)) rfl (.int .i64 (c : Nat)) (.int .i64 (b : Nat)) (.int .i64 (k : Nat))
  have hBz := bel_st3 (bel_st5 hBwz (Nat.le_refl _) (.int .i64 op) (.string xs) (.int .i64 m) (.slice bo n1 c1) (.slice lo ln lc)) (Nat.le_succ _) (.int .i64 (c : Nat)) (.int .i64 (b : Nat)) (.int .i64 (k : Nat))
  have hne : ∀ i, Ge ((w.alloc (.cells zF 27)).alloc (.cells zA 36)).heap.size i → ∀ j, j ≤ 1 → i ≠ w.heap.size + j := fun i hi j hj => by
    have h2 : ((w.alloc (.cells zF 27)).alloc (.cells zA 36)).heap.size ≤ i := hi
    rw [World.size_alloc, World.size_alloc] at h2
    omega
  have hHi := ((((Hi.st5 (P := Ge ((w.alloc (.cells zF 27)).alloc (.cells zA 36)).heap.size) (B := w.heap.size) (fun i hi => hne i hi 0 (by omega)) w4 (.int .i64 op) (.string xs) (.int .i64 m) (.slice bo n1 c1) (.slice lo ln lc)).set (g := w.heap.size + 1) (fun i hi => hne i hi 1 (by omega)) 0 (.int .i64 (c : Nat))).set (g := w.heap.size + 1) (fun i hi => hne i hi 1 (by omega)) 1 (.int .i64 (b : Nat))).set (g := w.heap.size + 1) (fun i hi => hne i hi 1 (by omega)) 2 (.int .i64 (k : Nat)))
  obtain ⟨k0, -⟩ := txcell hRa 0 _ rfl
  obtain ⟨k1, -⟩ := txcell hRa 1 _ rfl
  obtain ⟨k2, -⟩ := txcell hRa 2 _ rfl
  obtain ⟨k3, -⟩ := txcell hRa 3 _ rfl
  obtain ⟨k4, -⟩ := txcell hRa 4 _ rfl
  obtain ⟨l0, -⟩ := txcell hRb 0 _ rfl
  obtain ⟨l1, -⟩ := txcell hRb 1 _ rfl
  obtain ⟨l2, -⟩ := txcell hRb 2 _ rfl
  exact bodyPost_ret (v := .tuple #[.agg #[.int .i64 op, .string xs, .int .i64 m, .slice bo n1 c1, .slice lo ln lc], fau c b k]) (by simp [results, Tryd.results9, go_sem, k0, k1, k2, k3, k4, l0, l1, l2]) rfl ⟨_, rfl, ⟨_, _, _, _, _, _, _, _, _, rfl, HNO.out, fun f e => RdFn.low (fun i _ hi => Nat.le_trans hB2.size hi) _ _ _ _ _ _ (RdFn.keep hHi _ _ _ _ _ _ (HSO.out f e))⟩, hBz⟩
theorem FmA.fmv {B : Nat} {w : World} {f : Fm} {v : Value} (h : FmA B w (some f) v) : FmV w f v := by
  obtain ⟨op, xs, m, bo, n1, c1, lo, ln, lc, e, _, hr⟩ := h
  exact ⟨_, _, _, _, _, e, (hr f rfl).plain⟩
end Go.Proofs.YtabfhdmcljdjhaaDoor.Gl
