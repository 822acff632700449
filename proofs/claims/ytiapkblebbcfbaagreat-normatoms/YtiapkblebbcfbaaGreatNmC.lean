/- The program's combine. -/
import Derived.Test.YtiapkblebbcfbaaGreatNmB
import Derived.Test.YtiapkblebbcfbaaGreatNmP
import Derived.Test.YtiapkblebbcfbaaGreatRowRead
namespace Go.Proofs.YtiapkblebbcfbaaGreat.Gl
open Go.RowKit
set_option linter.unusedVariables false

theorem srt_own_tog (T : List ByteArray) : cmpt (tl (srt T)) = togL T := by
  have : tl (srt T) = (tl T).mergeSort fun x y => decide (x ≤ y) := by
    unfold srt
    rw [tl, un, List.map_map]
    exact (List.map_congr_left (fun l _ => by rfl)).trans (List.map_id _)
  rw [this]
  exact cmpt_tog T
abbrev zS : Array Value := #[.slice none 0 0, .slice none 0 0, .int .i64 0]
/-- what an operation on two numbers answers -/
def OpC (f : FuncId) (op : Int → Int → Int) : Prop := (∀ args w, Sem.run Tryz.prog (callFunc f args) w = .ok (.enter f args) w) ∧ ∀ a b w, I64 a → I64 b →
  (in64 (op a b) = true → Calls Tryz.prog f #[.int .i64 a, .int .i64 b] w fun e w' => e = .returned (.tuple #[.int .i64 (op a b), .int .i64 0]) ∧ w = w') ∧
  (in64 (op a b) = false → Calls Tryz.prog f #[.int .i64 a, .int .i64 b] w fun e w' => e = .returned (.tuple #[.int .i64 0, .int .i64 10]) ∧ w = w')
theorem in64_out {z : Int} (h : in64 z = false) : z < -9223372036854775808 ∨ 9223372036854775807 < z := by
  have := (in64_not z).1 h; omega
theorem opc_add : OpC 37 (fun a b => a + b) := ⟨fun args w => by simp [callFunc, go_sem, Tryz.func37]; rw [if_neg (by decide +kernel), if_neg (by intro h; cases h)], fun a b w ha hb =>
  ⟨fun h => (Chk.add_ok a b w ha.1 ha.2 hb.1 hb.2 ((in64_iff _).1 h).1 ((in64_iff _).1 h).2).mono fun e w' k => ⟨k.1, k.2.symm⟩, fun h => (Chk.add_no a b w ha.1 ha.2 hb.1 hb.2 (in64_out h)).mono fun e w' k => ⟨k.1, k.2.symm⟩⟩⟩
theorem opc_sub : OpC 36 (fun a b => a - b) := ⟨fun args w => by simp [callFunc, go_sem, Tryz.func36]; rw [if_neg (by decide +kernel), if_neg (by intro h; cases h)], fun a b w ha hb =>
  ⟨fun h => (Chk.sub_ok a b w ha.1 ha.2 hb.1 hb.2 ((in64_iff _).1 h).1 ((in64_iff _).1 h).2).mono fun e w' k => ⟨k.1, k.2.symm⟩, fun h => (Chk.sub_no a b w ha.1 ha.2 hb.1 hb.2 (in64_out h)).mono fun e w' k => ⟨k.1, k.2.symm⟩⟩⟩
theorem opc_mul : OpC 88 (fun a b => a * b) := ⟨fun args w => by simp [callFunc, go_sem, Tryz.func88]; rw [if_neg (by decide +kernel), if_neg (by intro h; cases h)], fun a b w ha hb =>
  ⟨fun h => (Chk.mul_ok a b w ha.1 ha.2 hb.1 hb.2 ((in64_iff _).1 h).1 ((in64_iff _).1 h).2).mono fun e w' k => ⟨k.1, k.2.symm⟩, fun h => (Chk.mul_no a b w ha.1 ha.2 hb.1 hb.2 (in64_out h)).mono fun e w' k => ⟨k.1, k.2.symm⟩⟩⟩
/-- the row lies from B on -/
def NewA (B : Nat) (ao : Option Addr) : Prop := ∀ ad, ao = some ad → B ≤ ad.block
theorem NewA.mono {B B' : Nat} {ao : Option Addr} (h : NewA B ao) (k : B' ≤ B) : NewA B' ao := fun ad e => Nat.le_trans k (h ad e)
theorem newA_none (B : Nat) : NewA B none := fun _ e => by cases e
/-- what a function answers that works out a sum: its rows lie from B on -/
def LrB (B : Nat) (w' : World) (r : Lr) (v : Value) : Prop :=
  match r with
  | .er e => v = .tuple #[.agg zS, .int .i64 e]
  | .ok s => ∃ no co n c m d, v = .tuple #[sumV s no co n c m d, .int .i64 0] ∧ RdSm w' s no co n c m d ∧ NewA B no ∧ NewA B co
/-- the same, its coefficients a row of its own -/
def LrN (B : Nat) (w' : World) (r : Lr) (v : Value) : Prop :=
  match r with
  | .er e => v = .tuple #[.agg zS, .int .i64 e]
  | .ok s => ∃ no n c m d g, v = .tuple #[sumV s no (some ⟨g, 0, none⟩) n c m d, .int .i64 0] ∧ RdS w' no n c s.ns ∧ (NewA B no ∧ ∀ ad, no = some ad → ad.block ≠ g) ∧ w'.ownsRow B 2 1 (.slice (some ⟨g, 0, none⟩) m d) m (cellsZ s.cs)
/-- the same, its names those that came in -/
def LrS (B : Nat) (w' : World) (no : Option Addr) (n c : Nat) (r : Lr) (v : Value) : Prop :=
  match r with
  | .er e => v = .tuple #[.agg zS, .int .i64 e]
  | .ok s => ∃ m d g, v = .tuple #[sumV s no (some ⟨g, 0, none⟩) n c m d, .int .i64 0] ∧ w'.ownsRow B 2 1 (.slice (some ⟨g, 0, none⟩) m d) m (cellsZ s.cs)
theorem rdz_of_own2 {w : World} {base : Nat} {t : TypeId} {ro : Option Addr} {n c : Nat} {zs : List Int} (h : w.ownsRow base t 1 (.slice ro n c) n (cellsZ zs)) : RdZ w ro n c zs := by
  obtain ⟨ro', cr, hv, hR⟩ := rdz_of_owns h
  obtain ⟨rfl, _, rfl⟩ := Value.slice.inj hv
  exact hR
theorem owns_ad {w : World} {base : Nat} {t : TypeId} {ro : Option Addr} {n c : Nat} {xs : List Value} (h : w.ownsRow base t 1 (.slice ro n c) n xs) : NewA base ro := fun ad e => by
  subst e
  rcases h.2 with ⟨e, _⟩ | ⟨g, cap, cur, e, hb, _⟩
  · cases e
  · cases e; exact hb
theorem owns_adlt {w : World} {base : Nat} {t : TypeId} {ro : Option Addr} {n c : Nat} {xs : List Value} (h : w.ownsRow base t 1 (.slice ro n c) n xs) : ∀ ad, ro = some ad → ad.block < w.heap.size := fun ad e => by
  subst e
  rcases h.2 with ⟨e, _⟩ | ⟨g, cap, cur, e, hb, hh, _⟩
  · cases e
  · cases e; exact (Array.getElem?_eq_some_iff.1 hh).1
theorem LrN.b {B : Nat} {w' : World} {r : Lr} {v : Value} (h : LrN B w' r v) : LrB B w' r v := by
  cases r with
  | er e => exact h
  | ok s =>
    obtain ⟨no, n, c, m, d, g, e, h1, h3, h2⟩ := h
    exact ⟨no, _, n, c, m, d, e, ⟨h1, rdz_of_own2 h2⟩, h3.1, owns_ad h2⟩
theorem LrB.below {B : Nat} {w w' : World} {r : Lr} {v : Value} (h : LrB B w r v) (hb : Below w.heap.size w w') : LrB B w' r v := by
  cases r with
  | er e => exact h
  | ok s =>
    obtain ⟨no, co, n, c, m, d, e, h1, h2⟩ := h
    exact ⟨no, co, n, c, m, d, e, h1.below hb, h2⟩
theorem LrB.mono {B B' : Nat} {w : World} {r : Lr} {v : Value} (h : LrB B w r v) (hb : B' ≤ B) : LrB B' w r v := by
  cases r with
  | er e => exact h
  | ok s =>
    obtain ⟨no, co, n, c, m, d, e, h1, h2, h3⟩ := h
    exact ⟨no, co, n, c, m, d, e, h1, h2.mono hb, h3.mono hb⟩
/-- its shape -/
theorem LrB.shape {B : Nat} {w : World} {r : Lr} {v : Value} (h : LrB B w r v) : ∃ no n c co m d k e, v = .tuple #[.agg #[.slice no n c, .slice co m d, .int .i64 k], .int .i64 e] := by
  cases r with
  | er e => exact ⟨none, 0, 0, none, 0, 0, 0, e, h⟩
  | ok s =>
    obtain ⟨no, co, n, c, m, d, e, h1⟩ := h
    exact ⟨no, n, c, co, m, d, s.k, 0, e⟩
theorem cmb_get (op : Int → Int → Int) (a b : Sm) (k : Nat) (hk : k < (togL (a.ns ++ b.ns)).length) : (cmb op a b).cs.getD k 0 = op (cof ((togL (a.ns ++ b.ns)).getD k emp) a.ns a.cs) (cof ((togL (a.ns ++ b.ns)).getD k emp) b.ns b.cs) := by
  have hk' : k < (cmb op a b).cs.length := by simp [cmb]; exact hk
  rw [getD_of hk', sgetD_of hk]
  simp [cmb]
theorem fits_iff (s : Sm) : s.fits = true ↔ in64 s.k = true ∧ ∀ k, k < s.cs.length → in64 (s.cs.getD k 0) = true := by
  unfold Sm.fits
  rw [Bool.and_eq_true, List.all_eq_true]
  constructor
  · rintro ⟨h1, h2⟩
    exact ⟨h2, fun k hk => by rw [getD_of hk]; exact h1 _ (List.getElem_mem hk)⟩
  · rintro ⟨h1, h2⟩
    refine ⟨fun x hx => ?_, h1⟩
    obtain ⟨j, hj, rfl⟩ := List.mem_iff_getElem.1 hx
    have := h2 j hj
    rw [getD_of hj] at this
    exact this
theorem mkS_yes {s : Sm} (h : s.fits = true) : mkS s = .ok s := if_pos h
theorem mkS_no {s : Sm} (h : ¬ s.fits = true) : mkS s = .er 91 := if_neg h
theorem cof_i64 {s : Sm} (h : s.fits = true) (x : ByteArray) : I64 (cof x s.ns s.cs) := cof_in (Q := I64) ⟨by decide, by decide⟩ x _ _ (fun c hc => Sm.fits.c h c hc)
end Go.Proofs.YtiapkblebbcfbaaGreat.Gl
