/- What the nodes of a tree say: the deepest, quantifiers. -/
import Derived.Test.YtiihabecncnbcaaNdA
import Derived.Test.YtiihabecncnbcaaTrN
namespace Go.Proofs.Ytiihabecncnbcaa.Gl
set_option linter.unusedVariables false

abbrev mxd (m : Int) (l : List Nd) : Int := l.foldl (fun m x => max m x.dp) m
theorem mxd_TL {a : List Tm} (ih : ∀ t ∈ a, ∀ (d : Nat) (m : Int), d + t.deep ≤ 900 → mxd m (ndT t d) = max m ((d : Int) + t.deep - 1)) (d : Nat) : ∀ m : Int, d + Tm.deepL a ≤ 900 → (d : Int) - 1 ≤ m → mxd m (ndTL a d) = max m ((d : Int) + Tm.deepL a - 1) := by
  induction a with
  | nil => intro m _ hm; rw [ndTL, Tm.deepL]; simp only [mxd, List.foldl_nil]; omega
  | cons t r ihr =>
    intro m hd hm
    rw [Tm.deepL] at hd ⊢
    rw [ndTL]
    simp only [mxd, List.foldl_append]
    have e1 := ih t (List.mem_cons_self ..) d m (by omega)
    simp only [mxd] at e1
    rw [e1]
    have e2 := ihr (fun u hu => ih u (List.mem_cons_of_mem _ hu)) (max m ((d : Int) + t.deep - 1)) (by omega) (by omega)
    simp only [mxd] at e2
    rw [e2]
    omega
theorem mxd_T : ∀ t (d : Nat) (m : Int), d + Tm.deep t ≤ 900 → mxd m (ndT t d) = max m ((d : Int) + t.deep - 1) := by
  refine Tm.ind (fun o n x a ih d m hd => ?_)
  rw [Tm.deep] at hd ⊢
  rw [ndT, dn_nat d (by omega)]
  have := mxd_TL ih (d + 1) (max m (d : Int)) (by omega) (by omega)
  simp only [mxd, List.foldl_cons, headT] at this ⊢
  rw [this]
  omega
theorem mxd_FL {a : List Fm} (ih : ∀ t ∈ a, ∀ (d : Nat) (m : Int), d + t.deep ≤ 900 → mxd m (ndF t d) = max m ((d : Int) + t.deep - 1)) (d : Nat) : ∀ m : Int, d + Fm.deepL a ≤ 900 → (d : Int) - 1 ≤ m → mxd m (ndFL a d) = max m ((d : Int) + Fm.deepL a - 1) := by
  induction a with
  | nil => intro m _ hm; rw [ndFL, Fm.deepL]; simp only [mxd, List.foldl_nil]; omega
  | cons t r ihr =>
    intro m hd hm
    rw [Fm.deepL] at hd ⊢
    rw [ndFL]
    simp only [mxd, List.foldl_append]
    have e1 := ih t (List.mem_cons_self ..) d m (by omega)
    simp only [mxd] at e1
    rw [e1]
    have e2 := ihr (fun u hu => ih u (List.mem_cons_of_mem _ hu)) (max m ((d : Int) + t.deep - 1)) (by omega) (by omega)
    simp only [mxd] at e2
    rw [e2]
    omega
theorem mxd_F : ∀ f (d : Nat) (m : Int), d + Fm.deep f ≤ 900 → mxd m (ndF f d) = max m ((d : Int) + f.deep - 1) := by
  refine Fm.ind (fun o x m t a ih d k hd => ?_)
  rw [Fm.deep] at hd ⊢
  rw [ndF, dn_nat d (by omega)]
  have e1 := mxd_TL (a := t) (fun u _ => mxd_T u) (d + 1) (max k (d : Int)) (by omega) (by omega)
  have e2 := mxd_FL ih (d + 1) (max (max k (d : Int)) (((d + 1 : Nat) : Int) + Tm.deepL t - 1)) (by omega) (by omega)
  simp only [mxd, List.foldl_cons, List.foldl_append, headF] at e1 e2 ⊢
  rw [e1, e2]
  omega
theorem mxd_all (f : Fm) (h : f.deep ≤ 40) : mxd 0 (ndF f 1) = f.deep := by
  have := mxd_F f 1 0 (by omega)
  rw [show (((1 : Nat) : Int)) = 1 from rfl] at this
  rw [this]
  omega
/- no quantifier -/
def noq (x : Nd) : Bool := x.isT || !(quant x.op)
theorem noq_T : ∀ t d, (ndT t d).all noq = true := by
  refine Tm.ind (fun o n x a ih d => ?_)
  rw [ndT, List.all_cons]
  have : ∀ (l : List Tm) d, (∀ t ∈ l, t ∈ a) → (ndTL l d).all noq = true := by
    intro l
    induction l with
    | nil => intro d _; rfl
    | cons t r ihr =>
      intro d hm
      rw [ndTL, List.all_append, ih t (hm t (List.mem_cons_self ..)), ihr d (fun u hu => hm u (List.mem_cons_of_mem _ hu))]
      rfl
  rw [this a (dn d) (fun _ h => h)]
  rfl
theorem noq_TL (l : List Tm) (d : Int) : (ndTL l d).all noq = true := by
  induction l with
  | nil => rfl
  | cons t r ih => rw [ndTL, List.all_append, noq_T, ih]; rfl
theorem noq_F : ∀ f d, (ndF f d).all noq = plainF f := by
  refine Fm.ind (fun o x m t a ih d => ?_)
  rw [ndF, plainF, List.all_cons, List.all_append, noq_TL]
  have : ∀ (l : List Fm) d, (∀ t ∈ l, t ∈ a) → (ndFL l d).all noq = plainFL l := by
    intro l
    induction l with
    | nil => intro d _; rw [ndFL, plainFL]; rfl
    | cons t r ihr =>
      intro d hm
      rw [ndFL, plainFL, List.all_append, ih t (hm t (List.mem_cons_self ..)), ihr d (fun u hu => hm u (List.mem_cons_of_mem _ hu))]
  rw [this a (dn d) (fun _ h => h)]
  simp [noq, headF]
theorem right_of {f : Fm} (h : chk nmB f = 0) : f.size ≤ 500 ∧ f.deep ≤ 40 := by
  have := (chk_iff nmB f).1 h
  exact ⟨this.1, this.2.1⟩
end Go.Proofs.Ytiihabecncnbcaa.Gl
