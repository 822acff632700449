/- The document's plus: what is said. -/
import Derived.Test.YtiapkblebbcfbaaGreatNtE
import Derived.Test.YtiapkblebbcfbaaGreatPsE
import Derived.Test.YtiapkblebbcfbaaGreatSums
import Derived.Deep.DeepCutAuto
import Derived.Deep.RegionHeld3
namespace Go.Proofs.YtiapkblebbcfbaaGreat.Gl
open Go Go.RowKit
set_option linter.unusedVariables false
set_option linter.unusedSimpArgs false

theorem rds_bx8 {w w' : World} {ro : Option Addr} {n c p : Nat} {T : List ByteArray} (h : RdS w ro n c T) (hb : Bux p w w') (hne : ∀ ad, ro = some ad → ad.block ≠ p) : RdS w' ro n c T := by
  refine ⟨h.eqlen, h.lecap, h.lemax, h.isnil, fun i hi => ?_⟩
  obtain ⟨b, off, rfl, hc⟩ := h.cell i hi
  exact ⟨b, off, rfl, (World.cell?_of_block (hb.block b (World.block_lt_of_cell? _ _ hc) (hne _ rfl))).trans hc⟩
theorem bk_bux {w w' : World} {a : Option Addr} {t : TypeId} {p : Nat} (h : Bk w a t) (hb : Bux p w w') (hne : ∀ ad, a = some ad → ad.block ≠ p) : Bk w' a t := fun ad e => by
  obtain ⟨cur, hc⟩ := h ad e
  exact ⟨cur, (hb.block _ (Array.getElem?_eq_some_iff.1 hc).1 (hne ad e)).trans hc⟩
theorem c2_of {y : World} {p : Nat} {a ck : Option Addr} {l c k dk : Nat} {v ex : Int} (hR : Rb y p (sum4 a ck l c k dk v ex) 32) : y.cell? ⟨p, 2, none⟩ = some (.int .i64 v) ∧ y.frozen? ⟨p, 2, none⟩ = false := txcell (vs := sum4 a ck l c k dk v ex) hR 2 _ rfl
theorem c2_set {y : World} {p : Nat} {a ck : Option Addr} {l c k dk : Nat} {v0 v ex : Int} (hR : Rb y p (sum4 a ck l c k dk v0 ex) 32) : Rb (y.setCell ⟨p, 2, none⟩ (.int .i64 v)) p (sum4 a ck l c k dk v ex) 32 := tx_set hR 2 _
theorem cells4 {y : World} {p : Nat} {a ck : Option Addr} {l c k dk : Nat} {v ex : Int} (hR : Rb y p (sum4 a ck l c k dk v ex) 32) : y.cell? ⟨p, 0, none⟩ = some (.slice a l c) ∧ y.cell? ⟨p, 1, none⟩ = some (.slice ck k dk) ∧ y.cell? ⟨p, 2, none⟩ = some (.int .i64 v) ∧ y.cell? ⟨p, 3, none⟩ = some (.int .i64 ex) :=
  ⟨(txcell hR 0 _ rfl).1, (txcell hR 1 _ rfl).1, (txcell hR 2 _ rfl).1, (txcell hR 3 _ rfl).1⟩
theorem cellsZ4 {y : World} {p : Nat} (hR : Rb y p z4 32) : (y.cell? ⟨p, 0, none⟩ = some (.slice none 0 0) ∧ y.frozen? ⟨p, 0, none⟩ = false) ∧ (y.cell? ⟨p, 1, none⟩ = some (.slice none 0 0) ∧ y.frozen? ⟨p, 1, none⟩ = false) ∧ (y.cell? ⟨p, 2, none⟩ = some (.int .i64 0) ∧ y.frozen? ⟨p, 2, none⟩ = false) ∧ (y.cell? ⟨p, 3, none⟩ = some (.int .i64 0) ∧ y.frozen? ⟨p, 3, none⟩ = false) :=
  ⟨txcell hR 0 _ rfl, txcell hR 1 _ rfl, txcell hR 2 _ rfl, txcell hR 3 _ rfl⟩
def DSumO (B : Nat) (w : World) (r : Lr) (v : Value) : Prop := match r with
  | .ok s => ∃ no co n c m d, v = .agg (sum4 no co n c m d s.k 0) ∧ RdS w no n c s.ns ∧ Bk w no 9 ∧ w.ownsRow B 2 1 (.slice co m d) m (cellsZ s.cs)
  | .er e => ∃ no co n c m d k, v = .agg (sum4 no co n c m d k e) ∧ (e = 90 ∨ e = 91) ∧ I64 k
theorem DSumO.sum {B : Nat} {w : World} {r : Lr} {v : Value} (h : DSumO B w r v) : DSum w r v := by
  cases r with
  | er e =>
    obtain ⟨no, co, n, c, m, d, k, h1, h2, -⟩ := h
    exact ⟨no, co, n, c, m, d, k, h1, h2⟩
  | ok s =>
    obtain ⟨no, co, n, c, m, d, e, h1, hk, h2⟩ := h
    exact ⟨no, co, n, c, m, d, e, h1, rdz_of_own2 h2, hk, bk_of_owns h2⟩
theorem owns_base {w : World} {B B' : Nat} {t : TypeId} {v : Value} {n : Nat} {xs : List Value} (h : w.ownsRow B t 1 v n xs) (hb : B' ≤ B) : w.ownsRow B' t 1 v n xs := by
  refine ⟨h.1, ?_⟩
  rcases h.2 with h2 | ⟨g, cap, cur, e, hg, h3⟩
  · exact .inl h2
  · exact .inr ⟨g, cap, cur, e, Nat.le_trans hb hg, h3⟩
def bop (less : Bool) (a b : Int) : Int := match less with | true => a - b | false => a + b
theorem rgstep_of {P : Program} {ops : Array Oper} {G : Nat → Value → World → Prop} {a0 : Act} {W0 : World} {Q : Exit → Act → World → Prop} {o : Oper} (h : ∀ (a : Act) (w : World), (∀ t, t ∉ dstsOf ops → a.tmps[t]? = a0.tmps[t]?) → (∀ e ∈ o.after, ∀ (p : Oper) (d : Nat), ops[e.on]? = some p → p.dst = some d → Region.binds .any e = true → ∃ v, a.tmps[d]? = some v ∧ G d v w) → Below W0.heap.size W0 w →
    ∀ K : Act → World → Prop, (∀ v w', (∀ d, o.dst = some d → G d v w') → Below w.heap.size w w' → K (a.put o.dst v) w') → o.wp P a w K Q) : RgStep P ops G a0 W0 Q o := fun a w h1 h2 h3 => h a w h1 h2 h3 _ (fun v w' hg hr => ⟨v, rfl, hg, hr⟩)
theorem wp_region_propsL {P : Program} {ops : Array Oper} {Q : Exit → Act → World → Prop} {a0 : Act} {w : World} {id : Nat} (G : Nat → Value → World → Prop) (ds : List Nat) (hds : dstsOf ops = ds) (hm : P.follows .mixedOrders = true) (hR : rgB a0.tmps.size ops = true) (hG : ∀ d v w w', G d v w → Below w.heap.size w w' → G d v w') (hS : ∀ (k : Nat) (o : Oper), ops[k]? = some o → RgStep P ops G a0 w.drew Q o)
    (hQ : ∀ vs w', Below w.drew.heap.size w.drew w' → (∀ d ∈ ds, G d (vs d) w') → Q .normal (putR vs ds a0) w') : (Code.region id ops true).wp P Q a0 w := by
  subst hds
  exact wp_region_props G hm hR hG hS hQ
/-- how far the coefficients have come -/
def Fit9 (less : Bool) (p q : Sm) (T : List ByteArray) (k : Nat) (e : Int) : Prop := (e = 0 ∧ ∀ x ∈ T.take k, in64 (bop less (cof x p.ns p.cs) (cof x q.ns q.cs)) = true) ∨ (e = 91 ∧ ∃ x ∈ T.take k, in64 (bop less (cof x p.ns p.cs) (cof x q.ns q.cs)) = false)
def us9 (less : Bool) (p q : Sm) (T : List ByteArray) : List Int := T.map (fun x => Wd.nOf (bop less (cof x p.ns p.cs) (cof x q.ns q.cs)))
theorem eOf_zero {x : Int} : Wd.eOf x = 0 ↔ in64 x = true := by
  unfold Wd.eOf
  rw [in64_iff]
  constructor
  · intro h
    by_cases k : -9223372036854775808 ≤ x ∧ x ≤ 9223372036854775807
    · exact k
    · rw [if_neg k] at h; simp at h
  · intro h; rw [if_pos h]
theorem nOf_in {x : Int} (h : in64 x = true) : Wd.nOf x = x := if_pos ((in64_iff _).1 h)
theorem nOf_i64 (x : Int) : I64 (Wd.nOf x) := by
  unfold Wd.nOf
  split
  · assumption
  · exact ⟨by decide, by decide⟩
theorem Fit9.step {less : Bool} {p q : Sm} {T : List ByteArray} {k : Nat} {e : Int} (h : Fit9 less p q T k e) (hk : k < T.length) : Fit9 less p q T (k + 1) (if Wd.eOf (bop less (cof (T.getD k emp) p.ns p.cs) (cof (T.getD k emp) q.ns q.cs)) = 0 then e else 91) := by
  have ht : T.take (k + 1) = T.take k ++ [T.getD k emp] := by rw [List.take_add_one, List.getElem?_eq_getElem hk, List.getD_eq_getElem?_getD, List.getElem?_eq_getElem hk]; rfl
  by_cases he : Wd.eOf (bop less (cof (T.getD k emp) p.ns p.cs) (cof (T.getD k emp) q.ns q.cs)) = 0
  · rw [if_pos he]
    rcases h with ⟨h0, h1⟩ | ⟨h0, x, hx, h1⟩
    · left
      refine ⟨h0, fun x hx => ?_⟩
      rw [ht] at hx
      rcases List.mem_append.1 hx with hx | hx
      · exact h1 x hx
      · rw [List.mem_singleton] at hx; subst hx; exact eOf_zero.1 he
    · right
      exact ⟨h0, x, by rw [ht]; exact List.mem_append_left _ hx, h1⟩
  · rw [if_neg he]
    right
    refine ⟨rfl, T.getD k emp, by rw [ht]; exact List.mem_append_right _ (List.mem_singleton.2 rfl), ?_⟩
    cases hi : in64 (bop less (cof (T.getD k emp) p.ns p.cs) (cof (T.getD k emp) q.ns q.cs)) with
    | false => rfl
    | true => exact absurd (eOf_zero.2 hi) he
theorem us9_take (less : Bool) (p q : Sm) (T : List ByteArray) (k : Nat) (hk : k < T.length) : (us9 less p q T).take k ++ [Wd.nOf (bop less (cof (T.getD k emp) p.ns p.cs) (cof (T.getD k emp) q.ns q.cs))] = (us9 less p q T).take (k + 1) := by
  have hl : k < (us9 less p q T).length := by simpa [us9] using hk
  rw [List.take_add_one, List.getElem?_eq_getElem hl]
  congr 1
  simp [us9, List.getD_eq_getElem?_getD, hk]
/-- what comes of it -/
theorem fin9 {less : Bool} {p q : Sm} {T : List ByteArray} {e : Int} (hT : togL (p.ns ++ q.ns) = T) (h : Fit9 less p q T T.length e) {w : World} {a co : Option Addr} {l c m d B : Nat} (hN : RdS w a l c T) (hK : Bk w a 9) (hZ : w.ownsRow B 2 1 (.slice co m d) m (cellsZ (us9 less p q T))) :
    DSumO B w (mkS (cmb (bop less) p q)) (.agg (sum4 a co l c m d (Wd.nOf (bop less p.k q.k)) (if Wd.eOf (bop less p.k q.k) = 0 then e else 91))) := by
  rw [Fit9, List.take_length] at h
  have hns : (cmb (bop less) p q).ns = T := hT
  have hcs : (cmb (bop less) p q).cs = T.map (fun x => bop less (cof x p.ns p.cs) (cof x q.ns q.cs)) := by rw [← hT]; rfl
  have hks : (cmb (bop less) p q).k = bop less p.k q.k := rfl
  have hf : (cmb (bop less) p q).fits = true ↔ (∀ x ∈ T, in64 (bop less (cof x p.ns p.cs) (cof x q.ns q.cs)) = true) ∧ in64 (bop less p.k q.k) = true := by
    unfold Sm.fits
    rw [hcs, hks, Bool.and_eq_true, List.all_eq_true]
    simp
  unfold mkS
  by_cases hfit : (cmb (bop less) p q).fits = true
  · rw [if_pos hfit]
    obtain ⟨h1, h2⟩ := hf.1 hfit
    have he : e = 0 := by
      rcases h with ⟨h, _⟩ | ⟨_, x, hx, hn⟩
      · exact h
      · rw [h1 x hx] at hn; cases hn
    refine ⟨a, co, l, c, m, d, ?_, by rw [hns]; exact hN, hK, ?_⟩
    · rw [hks, nOf_in h2, if_pos (eOf_zero.2 h2), he]
    · rw [hcs]
      have hu : us9 less p q T = T.map (fun x => bop less (cof x p.ns p.cs) (cof x q.ns q.cs)) := List.map_congr_left fun x hx => nOf_in (h1 x hx)
      rw [← hu]
      exact hZ
  · rw [if_neg hfit]
    refine ⟨a, co, l, c, m, d, Wd.nOf (bop less p.k q.k), ?_, .inr rfl, nOf_i64 _⟩
    congr 3
    rcases h with ⟨h, h1⟩ | ⟨h, _⟩
    · have : ¬ in64 (bop less p.k q.k) = true := fun h2 => hfit (hf.2 ⟨h1, h2⟩)
      rw [if_neg (fun e => this (eOf_zero.1 e))]
      rfl
    · subst h
      simp

end Go.Proofs.YtiapkblebbcfbaaGreat.Gl
