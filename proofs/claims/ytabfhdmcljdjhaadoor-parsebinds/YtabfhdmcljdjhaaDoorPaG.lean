/- What is read of words is read of other words that agree, as far as it goes: plain mathematics. -/
import Derived.Test.YtabfhdmcljdjhaaDoorPcA
namespace Go.Proofs.YtabfhdmcljdjhaaDoor.Gl
set_option linter.unusedVariables false
set_option linter.unusedSimpArgs false

/-- words vs from d on are those of ws up to e; at e nothing more stands in vs than in ws (but a shutting bracket, if b is false) -/
structure Ag (ws vs : List Wd) (d e : Nat) (b c : Prop) : Prop where
  full : ∀ i, i < e → (∀ x, IsS ws i x ↔ IsS vs (d + i) x) ∧ (∀ x, IsN ws i x ↔ IsN vs (d + i) x) ∧ ∀ n, IsD ws i n ↔ IsD vs (d + i) n
  neg : ∀ x, (x = kShut → b) → IsS vs (d + e) x → IsS ws e x
  negN : ∀ x, IsN vs (d + e) x → IsN ws e x
  negD : ∀ n, IsD vs (d + e) n → IsD ws e n
  posD : c → ∀ n, IsD ws e n → IsD vs (d + e) n
def Out.fin {α : Type} : Out α → Nat
  | .ok _ q => q
  | .bad _ q => q
def Out.isBad {α : Type} : Out α → Prop
  | .ok _ _ => False
  | .bad _ _ => True
def Out.isMod {α : Type} : Out α → Prop
  | .bad e _ => e = 92
  | .ok _ _ => False
def Out.sh {α : Type} (d : Nat) : Out α → Out α
  | .ok a q => .ok a (d + q)
  | .bad e q => .bad e (d + q)
abbrev AgO {α : Type} (ws vs : List Wd) (d : Nat) (r : Out α) : Prop := Ag ws vs d r.fin r.isBad r.isMod
theorem Ag.sub {ws vs : List Wd} {d e e1 : Nat} {b c : Prop} (h : Ag ws vs d e b c) (he : e1 ≤ e) : Ag ws vs d e1 False False := by
  by_cases hlt : e1 < e
  · have f := h.full e1 hlt
    exact ⟨fun i hi => h.full i (by omega), fun x _ k => (f.1 x).2 k, fun x k => (f.2.1 x).2 k, fun n k => (f.2.2 n).2 k, fun k => k.elim⟩
  · obtain rfl : e1 = e := by omega
    exact ⟨h.full, fun x hx k => h.neg x (fun hh => (hx hh).elim) k, h.negN, h.negD, fun k => k.elim⟩
theorem Ag.s {ws vs : List Wd} {d e : Nat} {b c : Prop} (h : Ag ws vs d e b c) {i : Nat} (hi : i < e) {x : ByteArray} (k : IsS ws i x) : IsS vs (d + i) x := ((h.full i hi).1 x).1 k
theorem Ag.n {ws vs : List Wd} {d e : Nat} {b c : Prop} (h : Ag ws vs d e b c) {i : Nat} (hi : i < e) {x : ByteArray} (k : IsN ws i x) : IsN vs (d + i) x := ((h.full i hi).2.1 x).1 k
theorem Ag.d {ws vs : List Wd} {d e : Nat} {b c : Prop} (h : Ag ws vs d e b c) {i : Nat} (hi : i < e) {x : Nat} (k : IsD ws i x) : IsD vs (d + i) x := ((h.full i hi).2.2 x).1 k
theorem Ag.ns {ws vs : List Wd} {d e : Nat} {b c : Prop} (h : Ag ws vs d e b c) {i : Nat} (hi : i ≤ e) {x : ByteArray} (hx : x ≠ kShut) (k : ¬ IsS ws i x) : ¬ IsS vs (d + i) x :=
  fun z => k ((h.sub hi).neg x (fun e => (hx e).elim) z)
theorem Ag.nn {ws vs : List Wd} {d e : Nat} {b c : Prop} (h : Ag ws vs d e b c) {i : Nat} (hi : i ≤ e) (k : ∀ x, ¬ IsN ws i x) : ∀ x, ¬ IsN vs (d + i) x :=
  fun x z => k x ((h.sub hi).negN x z)
theorem Ag.nd {ws vs : List Wd} {d e : Nat} {b c : Prop} (h : Ag ws vs d e b c) {i : Nat} (hi : i ≤ e) (k : ∀ x, ¬ IsD ws i x) : ∀ x, ¬ IsD vs (d + i) x :=
  fun x z => k x ((h.sub hi).negD x z)
theorem PT.ag {ws : List Wd} {k : QT} {p : Nat} {r : Out Tm} (h : PT ws k p r) : ∀ {vs d}, AgO ws vs d r → PT vs k (d + p) (r.sh d) := by
  induction h with
  | sqBad a h i => intro vs d A; have := h.far; simp only [Out.far, QT.more] at this; exact .sqBad (A.s (by simp only [Out.fin]; omega) a) (i A)
  | sqNo a h b i => intro vs d A; have := h.far; simp only [Out.far, QT.more] at this; exact .sqNo (A.s (by simp only [Out.fin]; omega) a) (i (A.sub (Nat.le_refl _))) (A.ns (Nat.le_refl _) (by decide) b)
  | sq a h b i => intro vs d A; have := h.far; simp only [Out.far, QT.more] at this; exact .sq (A.s (by simp only [Out.fin]; omega) a) (i (A.sub (by simp only [Out.fin]; omega))) (A.s (by simp only [Out.fin]; omega) b)
  | negBad a h i => intro vs d A; have := h.far; simp only [Out.far, QT.more] at this; exact .negBad (A.s (by simp only [Out.fin]; omega) a) (i A)
  | neg a h i => intro vs d A; have := h.far; simp only [Out.far, QT.more] at this; exact .neg (A.s (by simp only [Out.fin]; omega) a) (i A)
  | name a => intro vs d A; exact .name (A.n (by simp only [Out.fin]; omega) a)
  | num a => intro vs d A; exact .num (A.d (by simp only [Out.fin]; omega) a)
  | none a b c e => intro vs d A; exact .none (A.ns (Nat.le_refl _) (by decide) a) (A.ns (Nat.le_refl _) (by decide) b) (A.nn (Nat.le_refl _) c) (A.nd (Nat.le_refl _) e)
  | prodBad h i => intro vs d A; exact .prodBad (i A)
  | @prod p x q r h h' i j =>
    intro vs d A
    have hq : q ≤ r.fin := by have := h'.far; cases r <;> simp only [Out.far, QT.more, Out.fin] at * <;> omega
    exact .prod (i (A.sub hq)) (j A)
  | prodStop a => intro vs d A; exact .prodStop (A.ns (Nat.le_refl _) (by decide) a)
  | prodLBad a h i => intro vs d A; have := h.far; simp only [Out.far, QT.more] at this; exact .prodLBad (A.s (by simp only [Out.fin]; omega) a) (i A)
  | @prodL p x y q r a h h' i j =>
    intro vs d A
    have hp := h.far
    have hq : q ≤ r.fin := by have := h'.far; cases r <;> simp only [Out.far, QT.more, Out.fin] at * <;> omega
    simp only [Out.far, QT.more] at hp
    exact .prodL (A.s (by omega) a) (i (A.sub hq)) (j A)
  | sumBad h i => intro vs d A; exact .sumBad (i A)
  | @sum p x q r h h' i j =>
    intro vs d A
    have hq : q ≤ r.fin := by have := h'.far; cases r <;> simp only [Out.far, QT.more, Out.fin] at * <;> omega
    exact .sum (i (A.sub hq)) (j A)
  | sumStop a b => intro vs d A; exact .sumStop (A.ns (Nat.le_refl _) (by decide) a) (A.ns (Nat.le_refl _) (by decide) b)
  | addBad a h i => intro vs d A; have := h.far; simp only [Out.far, QT.more] at this; exact .addBad (A.s (by simp only [Out.fin]; omega) a) (i A)
  | @add p x y q r a h h' i j =>
    intro vs d A
    have hp := h.far
    have hq : q ≤ r.fin := by have := h'.far; cases r <;> simp only [Out.far, QT.more, Out.fin] at * <;> omega
    simp only [Out.far, QT.more] at hp
    exact .add (A.s (by omega) a) (i (A.sub hq)) (j A)
  | subBad a h i => intro vs d A; have := h.far; simp only [Out.far, QT.more] at this; exact .subBad (A.s (by simp only [Out.fin]; omega) a) (i A)
  | @sub p x y q r a h h' i j =>
    intro vs d A
    have hp := h.far
    have hq : q ≤ r.fin := by have := h'.far; cases r <;> simp only [Out.far, QT.more, Out.fin] at * <;> omega
    simp only [Out.far, QT.more] at hp
    exact .sub (A.s (by omega) a) (i (A.sub hq)) (j A)
theorem PN.ag {ws : List Wd} {p : Nat} {r : Out (List ByteArray)} (h : PN ws p r) : ∀ {vs d}, AgO ws vs d r → PN vs (d + p) (r.sh d) := by
  induction h with
  | none a => intro vs d A; exact .none (A.nn (Nat.le_refl _) a)
  | last a b => intro vs d A; exact .last (A.n (by simp only [Out.fin]; omega) a) (A.ns (Nat.le_refl _) (by decide) b)
  | bad a b h i => intro vs d A; have := h.far; simp only [Out.far] at this; exact .bad (A.n (by simp only [Out.fin]; omega) a) (A.s (by simp only [Out.fin]; omega) b) (i A)
  | more a b h i => intro vs d A; have := h.far; simp only [Out.far] at this; exact .more (A.n (by simp only [Out.fin]; omega) a) (A.s (by simp only [Out.fin]; omega) b) (i A)
theorem rels_not {x : ByteArray} (h : x ∈ rels) : x ≠ kShut := by
  simp only [List.mem_cons, List.not_mem_nil, or_false] at h
  rcases h with e | e | e | e | e | e | e <;> (subst e; decide)
theorem PT.sub71 {ws : List Wd} {k : QT} {p : Nat} {r : Out Tm} (h : PT ws k p r) : ∀ e q, r = .bad e q → e = 71 := by
  induction h with
  | sqNo _ _ _ _ => intro e q h; cases h; rfl
  | none _ _ _ _ => intro e q h; cases h; rfl
  | prod _ _ _ j => exact j
  | prodL _ _ _ _ j => exact j
  | sum _ _ _ j => exact j
  | add _ _ _ _ j => exact j
  | sub _ _ _ _ j => exact j
  | _ => first | assumption | (intro e q h; cases h)
theorem PA.ag {ws : List Wd} {p : Nat} {r : Out Fm} (h : PA ws p r) : ∀ {vs d}, AgO ws vs d r → PA vs (d + p) (r.sh d) := by
  intro vs d A
  cases h with
  | bad1 a => exact .bad1 (a.ag ⟨A.full, A.neg, A.negN, A.negD, A.posD⟩)
  | none a b => exact .none (a.ag (A.sub (Nat.le_refl _))) (fun x hx => A.ns (Nat.le_refl _) (rels_not hx) (b x hx))
  | bad2 a hx s b => have := b.far; simp only [Out.far, QT.more] at this; exact .bad2 (a.ag (A.sub (by simp only [Out.fin]; omega))) hx (A.s (by simp only [Out.fin]; omega) s) (b.ag ⟨A.full, A.neg, A.negN, A.negD, A.posD⟩)
  | rel a hi s b => have := b.far; simp only [Out.far, QT.more] at this; exact .rel (a.ag (A.sub (by simp only [Out.fin]; omega))) hi (A.s (by simp only [Out.fin]; omega) s) (b.ag (A.sub (Nat.le_refl _)))
  | noMod a s b t => have := b.far; simp only [Out.far, QT.more] at this; exact .noMod (a.ag (A.sub (by simp only [Out.fin]; omega))) (A.s (by simp only [Out.fin]; omega) s) (b.ag (A.sub (Nat.le_refl _))) (A.ns (Nat.le_refl _) (by decide) t)
  | noNum a s b t u => have := b.far; simp only [Out.far, QT.more] at this; exact .noNum (a.ag (A.sub (by simp only [Out.fin]; omega))) (A.s (by simp only [Out.fin]; omega) s) (b.ag (A.sub (by simp only [Out.fin]; omega))) (A.s (by simp only [Out.fin]; omega) t) (A.nd (Nat.le_refl _) u)
  | zero a s b t u => have := b.far; simp only [Out.far, QT.more] at this; exact .zero (a.ag (A.sub (by simp only [Out.fin]; omega))) (A.s (by simp only [Out.fin]; omega) s) (b.ag (A.sub (by simp only [Out.fin]; omega))) (A.s (by simp only [Out.fin]; omega) t) (A.posD rfl _ u)
  | cong a s b t u hn => have := b.far; simp only [Out.far, QT.more] at this; exact .cong (a.ag (A.sub (by simp only [Out.fin]; omega))) (A.s (by simp only [Out.fin]; omega) s) (b.ag (A.sub (by simp only [Out.fin]; omega))) (A.s (by simp only [Out.fin]; omega) t) (A.d (by simp only [Out.fin]; omega) u) hn
theorem un_not {x : ByteArray} (h : x ∈ [kNot, kEx, kAll, kOpen, kTrue, kFalse]) : x ≠ kShut := by
  simp only [List.mem_cons, List.not_mem_nil, or_false] at h
  rcases h with e | e | e | e | e | e <;> (subst e; decide)
theorem sg_not (n : Nat) : sgOf n ≠ kShut := by
  unfold sgOf
  split <;> decide
theorem PF.ag {ws : List Wd} {k : QF} {p : Nat} {r : Out Rs} (h : PF ws k p r) : ∀ {vs d}, AgO ws vs d r → PF vs k (d + p) (r.sh d) := by
  induction h with
  | un h i => intro vs d A; exact .un (i A)
  | levBad hn h i => intro vs d A; exact .levBad hn (i A)
  | levTail hn h h' i j => intro vs d A; have := h'.far; simp only [Out.far, QF.more] at this; exact .levTail hn (i (A.sub (by simp only [Out.fin]; omega))) (j A)
  | lev hn h h' i j => intro vs d A; have := h'.far; simp only [Out.far, QF.more] at this; exact .lev hn (i (A.sub (by simp only [Out.fin]; omega))) (j (A.sub (Nat.le_refl _)))
  | stop hn a => intro vs d A; exact .stop hn (A.ns (Nat.le_refl _) (sg_not _) a)
  | tailBad hn a h i => intro vs d A; have := h.far; simp only [Out.far, QF.more] at this; exact .tailBad hn (A.s (by simp only [Out.fin]; omega) a) (i A)
  | tailTail hn a h h' i j => intro vs d A; have := h.far; have := h'.far; simp only [Out.far, QF.more] at *; exact .tailTail hn (A.s (by simp only [Out.fin]; omega) a) (i (A.sub (by simp only [Out.fin]; omega))) (j A)
  | tail hn a h h' i j => intro vs d A; have := h.far; have := h'.far; simp only [Out.far, QF.more] at *; exact .tail hn (A.s (by simp only [Out.fin]; omega) a) (i (A.sub (by simp only [Out.fin]; omega))) (j (A.sub (Nat.le_refl _)))
  | notBad a h i => intro vs d A; have := h.far; simp only [Out.far, QF.more] at this; exact .notBad (A.s (by simp only [Out.fin]; omega) a) (i A)
  | not a h i => intro vs d A; have := h.far; simp only [Out.far, QF.more] at this; exact .not (A.s (by simp only [Out.fin]; omega) a) (i (A.sub (Nat.le_refl _)))
  | quNames hx a h => intro vs d A; have := h.far; simp only [Out.far] at this; exact .quNames hx (A.s (by simp only [Out.fin]; omega) a) (h.ag ⟨A.full, A.neg, A.negN, A.negD, A.posD⟩)
  | quDot hx a h b => intro vs d A; have := h.far; simp only [Out.far] at this; exact .quDot hx (A.s (by simp only [Out.fin]; omega) a) (h.ag (A.sub (Nat.le_refl _))) (A.ns (Nat.le_refl _) (by decide) b)
  | quBad hx a h b h' i => intro vs d A; have := h.far; have := h'.far; simp only [Out.far, QF.more] at *; exact .quBad hx (A.s (by simp only [Out.fin]; omega) a) (h.ag (A.sub (by simp only [Out.fin]; omega))) (A.s (by simp only [Out.fin]; omega) b) (i A)
  | qu hx a h b h' i => intro vs d A; have := h.far; have := h'.far; simp only [Out.far, QF.more] at *; exact .qu hx (A.s (by simp only [Out.fin]; omega) a) (h.ag (A.sub (by simp only [Out.fin]; omega))) (A.s (by simp only [Out.fin]; omega) b) (i (A.sub (Nat.le_refl _)))
  | brBad a h i => intro vs d A; have := h.far; simp only [Out.far, QF.more] at this; exact .brBad (A.s (by simp only [Out.fin]; omega) a) (i A)
  | brNo a h b i => intro vs d A; have := h.far; simp only [Out.far, QF.more] at this; exact .brNo (A.s (by simp only [Out.fin]; omega) a) (i (A.sub (Nat.le_refl _))) (fun z => b (A.neg _ (fun _ => trivial) z))
  | br a h b i => intro vs d A; have := h.far; simp only [Out.far, QF.more] at this; exact .br (A.s (by simp only [Out.fin]; omega) a) (i (A.sub (by simp only [Out.fin]; omega))) (A.s (by simp only [Out.fin]; omega) b)
  | tru a => intro vs d A; exact .tru (A.s (by simp only [Out.fin]; omega) a)
  | fls a => intro vs d A; exact .fls (A.s (by simp only [Out.fin]; omega) a)
  | atomBad hno h => intro vs d A; have := h.far; simp only [Out.far] at this; exact .atomBad (fun x hx => A.ns (by simp only [Out.fin]; omega) (un_not hx) (hno x hx)) (h.ag ⟨A.full, A.neg, A.negN, A.negD, A.posD⟩)
  | atom hno h => intro vs d A; have := h.far; simp only [Out.far] at this; exact .atom (fun x hx => A.ns (by simp only [Out.fin]; omega) (un_not hx) (hno x hx)) (h.ag (A.sub (Nat.le_refl _)))
end Go.Proofs.YtabfhdmcljdjhaaDoor.Gl
/- What the grammar reads is well made; what Check says of a well made tree: plain mathematics. -/
namespace Go.Proofs.YtabfhdmcljdjhaaDoor.Gl
set_option linter.unusedVariables false
set_option linter.unusedSimpArgs false

def E3 (s : St) : Prop := s.e = 0 ∨ s.e = 72 ∨ s.e = 73
theorem node_e3 {dp : Nat} {s : St} (h : E3 s) : E3 (s.node dp true) := by
  unfold E3 St.node at *
  simp only [if_true]
  split
  · exact .inr (.inr rfl)
  · split
    · exact .inr (.inl rfl)
    · exact h
theorem meterTL_e3 {nm : ByteArray → Bool} {l : List Tm} (hl : ∀ t ∈ l, ∀ dp s, t.all (wellT nm) = true → E3 s → E3 (meterT nm t dp s)) (dp : Nat) : ∀ s, Tm.allL (wellT nm) l = true → E3 s → E3 (meterTL nm l dp s) := by
  induction l with
  | nil => intro s _ h; rw [meterTL]; exact h
  | cons t r ih =>
    intro s ha h
    rw [Tm.allL, Bool.and_eq_true] at ha
    rw [meterTL]
    split
    · exact ih (fun u hu => hl u (List.mem_cons_of_mem _ hu)) _ ha.2 (hl t (List.mem_cons_self ..) dp s ha.1 h)
    · exact h
theorem meterT_e3 (nm : ByteArray → Bool) : ∀ t dp s, t.all (wellT nm) = true → E3 s → E3 (meterT nm t dp s) := by
  refine Tm.ind (fun o n x a ih dp s ha h => ?_)
  rw [Tm.all, Bool.and_eq_true] at ha
  rw [meterT, ha.1]
  exact meterTL_e3 ih _ _ ha.2 (node_e3 h)
theorem meterFL_e3 {nm : ByteArray → Bool} {l : List Fm} (hl : ∀ t ∈ l, ∀ dp s, t.all (wellT nm) (wellF nm) = true → E3 s → E3 (meterF nm t dp s)) (dp : Nat) : ∀ s, Fm.allL (wellT nm) (wellF nm) l = true → E3 s → E3 (meterFL nm l dp s) := by
  induction l with
  | nil => intro s _ h; rw [meterFL]; exact h
  | cons t r ih =>
    intro s ha h
    rw [Fm.allL, Bool.and_eq_true] at ha
    rw [meterFL]
    split
    · exact ih (fun u hu => hl u (List.mem_cons_of_mem _ hu)) _ ha.2 (hl t (List.mem_cons_self ..) dp s ha.1 h)
    · exact h
theorem meterF_e3 (nm : ByteArray → Bool) : ∀ f dp s, f.all (wellT nm) (wellF nm) = true → E3 s → E3 (meterF nm f dp s) := by
  refine Fm.ind (fun o x m t a ih dp s ha h => ?_)
  rw [Fm.all, Bool.and_eq_true, Bool.and_eq_true] at ha
  rw [meterF, ha.1.1]
  exact meterFL_e3 ih _ _ ha.2 (meterTL_e3 (fun u _ dp s => meterT_e3 nm u dp s) _ _ ha.1.2 (node_e3 h))
theorem chk_made {nm : ByteArray → Bool} {f : Fm} (h : f.all (wellT nm) (wellF nm) = true) : chk nm f = 0 ∨ chk nm f = 72 ∨ chk nm f = 73 := meterF_e3 nm f 1 ⟨0, 0, 0⟩ h (.inl rfl)
/- words whose names are names -/
def GoodW (nm : ByteArray → Bool) (ws : List Wd) : Prop := ∀ p x, IsN ws p x → nm x = true
def QT.fine (nm : ByteArray → Bool) : QT → Prop
  | .prodL x => x.all (wellT nm) = true
  | .sumL x => x.all (wellT nm) = true
  | _ => True
def Out.mdT (nm : ByteArray → Bool) : Out Tm → Prop
  | .ok x _ => x.all (wellT nm) = true
  | .bad _ _ => True
theorem all_bin {nm : ByteArray → Bool} {o : Int} (ho : o = 3 ∨ o = 4 ∨ o = 5) {x y : Tm} (hx : x.all (wellT nm) = true) (hy : y.all (wellT nm) = true) : (Tm.mk o 0 emp [x, y]).all (wellT nm) = true := by
  have e : emp.toList = [] := by decide +kernel
  rcases ho with rfl | rfl | rfl <;> simp [Tm.all, Tm.allL, wellT, wT, hx, hy, e]
theorem PT.made {nm : ByteArray → Bool} {ws : List Wd} (hg : GoodW nm ws) {k : QT} {p : Nat} {r : Out Tm} (h : PT ws k p r) : k.fine nm → r.mdT nm := by
  have e : emp.toList = [] := by decide +kernel
  induction h with
  | sq a h b i => intro _; exact i trivial
  | neg a h i => intro _; have := i trivial; simp only [Out.mdT] at *; simp [Tm.all, Tm.allL, wellT, wT, this, e]
  | name a => intro _; simp [Out.mdT, Tm.all, Tm.allL, wellT, wT, hg _ _ a]
  | num a => intro _; simp [Out.mdT, Tm.all, Tm.allL, wellT, wT, e]
  | prod _ _ i j => intro _; exact j (i trivial)
  | prodStop _ => intro h; exact h
  | prodL _ _ _ i j => intro h; exact j (all_bin (.inr (.inr rfl)) h (i trivial))
  | sum _ _ i j => intro _; exact j (i trivial)
  | sumStop _ _ => intro h; exact h
  | add _ _ _ i j => intro h; exact j (all_bin (.inl rfl) h (i trivial))
  | sub _ _ _ i j => intro h; exact j (all_bin (.inr (.inl rfl)) h (i trivial))
  | _ => intro _; trivial
abbrev mdF (nm : ByteArray → Bool) (f : Fm) : Prop := f.all (wellT nm) (wellF nm) = true
theorem PA.made {nm : ByteArray → Bool} {ws : List Wd} (hg : GoodW nm ws) {p : Nat} {r : Out Fm} (h : PA ws p r) : ∀ f q, r = .ok f q → mdF nm f := by
  have e : emp.toList = [] := by decide +kernel
  intro f q hr
  cases h with
  | @rel a0 _ i b0 _ a hi s b =>
    cases hr
    have ha : Tm.all (wellT nm) a0 = true := a.made hg trivial
    have hb : Tm.all (wellT nm) b0 = true := b.made hg trivial
    have : i = 0 ∨ i = 1 ∨ i = 2 ∨ i = 3 ∨ i = 4 ∨ i = 5 := by omega
    rcases this with rfl | rfl | rfl | rfl | rfl | rfl <;> (unfold mdF; simp [Fm.all, Fm.allL, Tm.allL, wellF, wF, ha, hb, e])
  | @cong a0 _ b0 _ n a s b t u hn =>
    cases hr
    have ha : Tm.all (wellT nm) a0 = true := a.made hg trivial
    have hb : Tm.all (wellT nm) b0 = true := b.made hg trivial
    show Fm.all (wellT nm) (wellF nm) (.mk 15 emp (n : Int) [a0, b0] []) = true
    simp [Fm.all, Fm.allL, Tm.allL, wellF, wF, ha, hb, e]
    omega
  | _ => cases hr
theorem md_pair {nm : ByteArray → Bool} {o : Int} (ho : 3 ≤ o ∧ o ≤ 6) {a b : Fm} (ha : mdF nm a) (hb : mdF nm b) : mdF nm (fPair o a b) := by
  have e : emp.toList = [] := by decide +kernel
  obtain ⟨h1, h2⟩ := ho
  have : o = 3 ∨ o = 4 ∨ o = 5 ∨ o = 6 := by omega
  simp only [mdF] at *
  rcases this with rfl | rfl | rfl | rfl <;> simp [Fm.all, Fm.allL, Tm.allL, wellF, wF, ha, hb, e]
theorem op_in (n : Nat) : 3 ≤ opOf n ∧ opOf n ≤ 6 := by
  unfold opOf
  split <;> decide
theorem md_foldL {nm : ByteArray → Bool} {o : Int} (ho : 3 ≤ o ∧ o ≤ 6) : ∀ (l : List Fm) (a : Fm), mdF nm a → (∀ f ∈ l, mdF nm f) → mdF nm (foldL o a l) := by
  intro l
  induction l with
  | nil => intro a ha _; exact ha
  | cons b l ih => intro a ha hl; exact ih _ (md_pair ho ha (hl b (List.mem_cons_self ..))) (fun f hf => hl f (List.mem_cons_of_mem _ hf))
theorem md_foldR {nm : ByteArray → Bool} {o : Int} (ho : 3 ≤ o ∧ o ≤ 6) : ∀ (l : List Fm) (a : Fm), mdF nm a → (∀ f ∈ l, mdF nm f) → mdF nm (foldR o a l) := by
  intro l
  induction l with
  | nil => intro a ha _; exact ha
  | cons b l ih => intro a ha hl; exact md_pair ho ha (ih _ (hl b (List.mem_cons_self ..)) (fun f hf => hl f (List.mem_cons_of_mem _ hf)))
theorem md_fold {nm : ByteArray → Bool} (n : Nat) {l : List Fm} {a : Fm} (ha : mdF nm a) (hl : ∀ f ∈ l, mdF nm f) : mdF nm (fold n a l) := by
  unfold fold
  split
  · exact md_foldR (op_in n) l a ha hl
  · exact md_foldL (op_in n) l a ha hl
theorem md_quants {nm : ByteArray → Bool} {o : Int} (ho : o = 7 ∨ o = 8) {f : Fm} (hf : mdF nm f) : ∀ l : List ByteArray, (∀ x ∈ l, nm x = true) → mdF nm (quants o l f) := by
  intro l
  induction l with
  | nil => intro _; exact hf
  | cons x l ih =>
    intro hl
    have h1 := ih (fun y hy => hl y (List.mem_cons_of_mem _ hy))
    have h2 := hl x (List.mem_cons_self ..)
    simp only [quants, mdF] at *
    rcases ho with rfl | rfl <;> simp [Fm.all, Fm.allL, Tm.allL, wellF, wF, h1, h2]
theorem PN.made {nm : ByteArray → Bool} {ws : List Wd} (hg : GoodW nm ws) {p : Nat} {r : Out (List ByteArray)} (h : PN ws p r) : ∀ l q, r = .ok l q → ∀ x ∈ l, nm x = true := by
  induction h with
  | last a _ => intro l q hr; cases hr; intro x hx; simp at hx; subst hx; exact hg _ _ a
  | more a b h i =>
    intro l q hr
    cases hr
    intro x hx
    rcases List.mem_cons.1 hx with rfl | hx
    · exact hg _ _ a
    · exact i _ _ rfl x hx
  | _ => intro l q hr; cases hr
def Out.mdR (nm : ByteArray → Bool) : Out Rs → Prop
  | .ok (.f f) _ => mdF nm f
  | .ok (.l l) _ => ∀ f ∈ l, mdF nm f
  | .bad _ _ => True
theorem PF.made {nm : ByteArray → Bool} {ws : List Wd} (hg : GoodW nm ws) {k : QF} {p : Nat} {r : Out Rs} (h : PF ws k p r) : r.mdR nm := by
  have e : emp.toList = [] := by decide +kernel
  induction h with
  | un _ i => exact i
  | lev hn _ _ i j => exact md_fold _ i j
  | stop _ _ => intro f hf; cases hf
  | tail _ _ _ _ i j =>
    intro f hf
    rcases List.mem_cons.1 hf with rfl | hf
    · exact i
    · exact j f hf
  | not _ _ i => simp only [Out.mdR, mdF] at *; simp [Fm.all, Fm.allL, Tm.allL, wellF, wF, i, e]
  | qu hx _ h _ _ i =>
    refine md_quants ?_ i _ (h.made hg _ _ rfl)
    simp at hx
    rcases hx with hx | hx
    · exact .inl hx.2
    · exact .inr hx.2
  | br _ _ _ i => exact i
  | tru _ => simp [Out.mdR, mdF, Fm.all, Fm.allL, Tm.allL, wellF, wF, e]
  | fls _ => simp [Out.mdR, mdF, Fm.all, Fm.allL, Tm.allL, wellF, wF, e]
  | atom _ h => exact h.made hg _ _ rfl
  | _ => trivial
end Go.Proofs.YtabfhdmcljdjhaaDoor.Gl
/- Formulas in brackets, put together: plain mathematics. -/
namespace Go.Proofs.YtabfhdmcljdjhaaDoor.Gl
set_option linter.unusedVariables false
set_option linter.unusedSimpArgs false

theorem isS_right {l r : List Wd} {i : Nat} {x : ByteArray} : IsS (l ++ r) (l.length + i) x ↔ IsS r i x := by
  unfold IsS
  rw [List.getElem?_append_right (by omega), show l.length + i - l.length = i by omega]
theorem isN_right {l r : List Wd} {i : Nat} {x : ByteArray} : IsN (l ++ r) (l.length + i) x ↔ IsN r i x := by
  unfold IsN
  rw [List.getElem?_append_right (by omega), show l.length + i - l.length = i by omega]
theorem isD_right {l r : List Wd} {i n : Nat} : IsD (l ++ r) (l.length + i) n ↔ IsD r i n := by
  unfold IsD
  rw [List.getElem?_append_right (by omega), show l.length + i - l.length = i by omega]
theorem isS_left {l r : List Wd} {i : Nat} (h : i < l.length) {x : ByteArray} : IsS (l ++ r) i x ↔ IsS l i x := by
  unfold IsS
  rw [List.getElem?_append_left h]
theorem isN_left {l r : List Wd} {i : Nat} (h : i < l.length) {x : ByteArray} : IsN (l ++ r) i x ↔ IsN l i x := by
  unfold IsN
  rw [List.getElem?_append_left h]
theorem isD_left {l r : List Wd} {i : Nat} (h : i < l.length) {n : Nat} : IsD (l ++ r) i n ↔ IsD l i n := by
  unfold IsD
  rw [List.getElem?_append_left h]
theorem isS_map {l : List Wd} {k i : Nat} {x : ByteArray} : IsS (l.map (Wd.move k)) i x ↔ IsS l i x := by
  unfold IsS
  rw [List.getElem?_map]
  cases l[i]? with
  | none => simp
  | some w => simp [Wd.move]
theorem isN_map {l : List Wd} {k i : Nat} {x : ByteArray} : IsN (l.map (Wd.move k)) i x ↔ IsN l i x := by
  unfold IsN
  rw [List.getElem?_map]
  cases l[i]? with
  | none => simp
  | some w => simp [Wd.move]
theorem isD_map {l : List Wd} {k i n : Nat} : IsD (l.map (Wd.move k)) i n ↔ IsD l i n := by
  unfold IsD
  rw [List.getElem?_map]
  cases l[i]? with
  | none => simp
  | some w => simp [Wd.move]
theorem isS_head {w : Wd} {l : List Wd} {x : ByteArray} : IsS (w :: l) 0 x ↔ w.kind = 2 ∧ w.text = x := by
  unfold IsS
  simp
/-- words that are a formula, whole -/
def Whole (ws : List Wd) (f : Fm) : Prop := PF ws (.lev 0) 0 (.ok (.f f) ws.length)
/-- what stands behind is a shutting bracket -/
theorem ag_shut {pre ws post : List Wd} {k : Nat} {wc : Wd} (hc : wc.kind = 2 ∧ wc.text = kShut) : Ag ws (pre ++ (ws.map (Wd.move k) ++ wc :: post)) pre.length ws.length False False := by
  have key : ∀ x, IsS (pre ++ (ws.map (Wd.move k) ++ wc :: post)) (pre.length + ws.length) x → x = kShut := by
    intro x h
    have h := isS_right.1 h
    rw [show ws.length = (ws.map (Wd.move k)).length + 0 by simp] at h
    have h := isS_right.1 h
    exact (isS_head.1 h).2.symm.trans hc.2
  refine ⟨fun i hi => ⟨fun x => ?_, fun x => ?_, fun n => ?_⟩, fun x hx h => (hx (key x h)).elim, fun x h => ?_, fun n h => ?_, fun h => h.elim⟩
  · rw [isS_right, isS_left (by simpa using hi), isS_map]
  · rw [isN_right, isN_left (by simpa using hi), isN_map]
  · rw [isD_right, isD_left (by simpa using hi), isD_map]
  · have h := isN_right.1 h
    rw [show ws.length = (ws.map (Wd.move k)).length + 0 by simp] at h
    have h := isN_right.1 h
    obtain ⟨w, e, h0, _⟩ := h
    simp at e
    subst e
    rw [hc.1] at h0
    cases h0
  · have h := isD_right.1 h
    rw [show ws.length = (ws.map (Wd.move k)).length + 0 by simp] at h
    have h := isD_right.1 h
    obtain ⟨w, e, h0, _⟩ := h
    simp at e
    subst e
    rw [hc.1] at h0
    cases h0
/-- a formula in brackets is a unary -/
theorem un_br {pre ws post : List Wd} {k : Nat} {wo wc : Wd} {f : Fm} (ho : wo.kind = 2 ∧ wo.text = kOpen) (hc : wc.kind = 2 ∧ wc.text = kShut) (h : Whole ws f) :
    PF (pre ++ wo :: (ws.map (Wd.move k) ++ wc :: post)) .un pre.length (.ok (.f f) (pre.length + (ws.length + 2))) := by
  have hA := ag_shut (pre := pre ++ [wo]) (ws := ws) (post := post) (k := k) hc
  have e : pre ++ [wo] ++ (ws.map (Wd.move k) ++ wc :: post) = pre ++ wo :: (ws.map (Wd.move k) ++ wc :: post) := by simp
  rw [e] at hA
  have hl := PF.ag h hA
  have e1 : (pre ++ [wo]).length = pre.length + 1 := by simp
  simp only [Out.sh, e1, Nat.add_zero] at hl
  have h0 : IsS (pre ++ wo :: (ws.map (Wd.move k) ++ wc :: post)) pre.length kOpen := by
    have := isS_right (l := pre) (r := wo :: (ws.map (Wd.move k) ++ wc :: post)) (i := 0) (x := kOpen)
    exact this.2 (isS_head.2 ho)
  have h1 : IsS (pre ++ wo :: (ws.map (Wd.move k) ++ wc :: post)) (pre.length + 1 + ws.length) kShut := by
    rw [← e, ← e1]
    refine isS_right.2 ?_
    rw [show ws.length = (ws.map (Wd.move k)).length + 0 by simp]
    exact isS_right.2 (isS_head.2 hc)
  have := PF.br h0 hl h1
  rwa [show pre.length + 1 + ws.length + 1 = pre.length + (ws.length + 2) by omega] at this
/-- no joint at q of the levels from n on -/
def NoJ (vs : List Wd) (n q : Nat) : Prop := ∀ m, n ≤ m → m < 4 → ¬ IsS vs q (sgOf m)
theorem NoJ.mono {vs : List Wd} {n n' q : Nat} (h : NoJ vs n q) (hn : n ≤ n') : NoJ vs n' q := fun m h1 h2 => h m (by omega) h2
theorem fold_nil (n : Nat) (a : Fm) : fold n a [] = a := by unfold fold; split <;> rfl
theorem lev_up {vs : List Wd} {n m p q : Nat} {f : Fm} (hn : n ≤ m) (hm : m ≤ 4) (h : PF vs (.lev m) p (.ok (.f f) q)) (hj : NoJ vs n q) : PF vs (.lev n) p (.ok (.f f) q) := by
  have key : ∀ i, i + n ≤ m → PF vs (.lev (m - i)) p (.ok (.f f) q) := by
    intro i
    induction i with
    | zero => intro _; exact h
    | succ i ih =>
      intro hi
      have h1 := ih (by omega)
      rw [show m - i = m - (i + 1) + 1 by omega] at h1
      have := PF.lev (by omega) h1 (.stop (by omega) (hj _ (by omega) (by omega)))
      rwa [fold_nil] at this
  have := key (m - n) (by omega)
  rwa [show m - (m - n) = n by omega] at this
theorem lev_un {vs : List Wd} {n p q : Nat} {f : Fm} (hn : n ≤ 4) (h : PF vs .un p (.ok (.f f) q)) (hj : NoJ vs n q) : PF vs (.lev n) p (.ok (.f f) q) := lev_up hn (Nat.le_refl _) (.un h) hj
/-- two parts with a joint between -/
theorem lev_two {vs : List Wd} {n p q q' : Nat} {f g : Fm} (hn : n < 4) (h1 : PF vs (.lev (n + 1)) p (.ok (.f f) q)) (hs : IsS vs q (sgOf n)) (h2 : PF vs (.lev (n + 1)) (q + 1) (.ok (.f g) q')) (hj : ¬ IsS vs q' (sgOf n)) :
    PF vs (.lev n) p (.ok (.f (fPair (opOf n) f g)) q') := by
  have := PF.lev hn h1 (.tail hn hs h2 (.stop hn hj))
  have e : fold n f [g] = fPair (opOf n) f g := by unfold fold; split <;> rfl
  rwa [e] at this
/-- three -/
theorem lev_three {vs : List Wd} {n p q q' q2 : Nat} {f g h : Fm} (hn : n < 4) (h1 : PF vs (.lev (n + 1)) p (.ok (.f f) q)) (hs : IsS vs q (sgOf n)) (h2 : PF vs (.lev (n + 1)) (q + 1) (.ok (.f g) q')) (hs' : IsS vs q' (sgOf n)) (h3 : PF vs (.lev (n + 1)) (q' + 1) (.ok (.f h) q2)) (hj : ¬ IsS vs q2 (sgOf n)) :
    PF vs (.lev n) p (.ok (.f (if n = 1 then fPair (opOf n) f (fPair (opOf n) g h) else fPair (opOf n) (fPair (opOf n) f g) h)) q2) := by
  have := PF.lev hn h1 (.tail hn hs h2 (.tail hn hs' h3 (.stop hn hj)))
  have e : fold n f [g, h] = if n = 1 then fPair (opOf n) f (fPair (opOf n) g h) else fPair (opOf n) (fPair (opOf n) f g) h := by unfold fold; split <;> rfl
  rwa [e] at this
/- at the end there is no joint; at a joint no other one -/
theorem noj_end {vs : List Wd} {n q : Nat} (h : vs.length ≤ q) : NoJ vs n q := fun m _ _ k => by have := k.lt; omega
theorem sg_inj {m n : Nat} (hm : m < 4) (hn : n < 4) (h : sgOf m = sgOf n) : m = n := by
  have : ∀ m, m < 4 → ∀ n, n < 4 → sgOf m = sgOf n → m = n := by decide +kernel
  exact this m hm n hn h
theorem noj_above {vs : List Wd} {n q : Nat} (hn : n < 4) (h : IsS vs q (sgOf n)) : NoJ vs (n + 1) q := fun m h1 h2 k => by
  have := sg_inj h2 hn (k.one h)
  omega
end Go.Proofs.YtabfhdmcljdjhaaDoor.Gl
/- Where a text goes wrong: plain mathematics. -/
namespace Go.Proofs.YtabfhdmcljdjhaaDoor.Gl
set_option linter.unusedVariables false
set_option linter.unusedSimpArgs false

/-- what is said of all the words -/
inductive Fin6 (ws : List Wd) : Out Fm → Prop
  | bad {e q} : PF ws (.lev 0) 0 (.bad e q) → Fin6 ws (.bad e q)
  | rest {f q} : PF ws (.lev 0) 0 (.ok (.f f) q) → q < ws.length → Fin6 ws (.bad 71 q)
  | ok {f} : Whole ws f → Fin6 ws (.ok f ws.length)
theorem Fin6.ex (ws : List Wd) : ∃ r, Fin6 ws r := by
  obtain ⟨r, hr⟩ := ((PF.ex ws _ 0 (Nat.le_refl _)).2 0 (by omega)).1
  cases r with
  | bad e q => exact ⟨_, .bad hr⟩
  | ok a q =>
    cases a with
    | l a => exact absurd hr.fits (by simp [Out.fits])
    | f f =>
      have := hr.far
      simp only [Out.far, QF.more] at this
      by_cases h : q < ws.length
      · exact ⟨_, .rest hr h⟩
      · obtain rfl : q = ws.length := by omega
        exact ⟨_, .ok hr⟩
theorem PA.why {ws : List Wd} {p : Nat} {r : Out Fm} (h : PA ws p r) : ∀ e q, r = .bad e q → e = 71 ∨ e = 92 := by
  intro e q hr
  cases h with
  | bad1 a => cases hr; exact .inl (a.sub71 _ _ rfl)
  | bad2 _ _ _ a => cases hr; exact .inl (a.sub71 _ _ rfl)
  | none _ _ => cases hr; exact .inl rfl
  | noMod _ _ _ _ => cases hr; exact .inl rfl
  | noNum _ _ _ _ _ => cases hr; exact .inl rfl
  | zero _ _ _ _ _ => cases hr; exact .inr rfl
  | _ => cases hr
theorem PN.why {ws : List Wd} {p : Nat} {r : Out (List ByteArray)} (h : PN ws p r) : ∀ e q, r = .bad e q → e = 71 := by
  induction h with
  | none _ => intro e q hr; cases hr; rfl
  | bad _ _ _ i => exact i
  | _ => intro e q hr; cases hr
theorem PF.why {ws : List Wd} {k : QF} {p : Nat} {r : Out Rs} (h : PF ws k p r) : ∀ e q, r = .bad e q → e = 71 ∨ e = 92 := by
  induction h with
  | un _ i => exact i
  | levBad _ _ i => exact i
  | levTail _ _ _ _ j => exact j
  | tailBad _ _ _ i => exact i
  | tailTail _ _ _ _ _ j => exact j
  | notBad _ _ i => exact i
  | quNames _ _ h => intro e q hr; cases hr; exact .inl (h.why _ _ rfl)
  | quDot _ _ _ _ => intro e q hr; cases hr; exact .inl rfl
  | quBad _ _ _ _ _ i => exact i
  | brBad _ _ i => exact i
  | brNo _ _ _ _ => intro e q hr; cases hr; exact .inl rfl
  | atomBad _ h => intro e q hr; cases hr; exact h.why _ _ rfl
  | _ => intro e q hr; cases hr
theorem Fin6.why {ws : List Wd} {e q : Nat} (h : Fin6 ws (.bad e q)) : (e = 71 ∨ e = 92) ∧ q ≤ ws.length := by
  cases h with
  | bad h => have := h.far; simp only [Out.far, QF.more] at this; exact ⟨h.why _ _ rfl, by omega⟩
  | rest h hq => exact ⟨.inl rfl, by omega⟩
/- words cut: nothing stands at the end -/
theorem isS_take {ws : List Wd} {q i : Nat} (h : i < q) {x : ByteArray} : IsS (ws.take q) i x ↔ IsS ws i x := by unfold IsS; rw [List.getElem?_take, if_pos h]
theorem isN_take {ws : List Wd} {q i : Nat} (h : i < q) {x : ByteArray} : IsN (ws.take q) i x ↔ IsN ws i x := by unfold IsN; rw [List.getElem?_take, if_pos h]
theorem isD_take {ws : List Wd} {q i n : Nat} (h : i < q) : IsD (ws.take q) i n ↔ IsD ws i n := by unfold IsD; rw [List.getElem?_take, if_pos h]
theorem ag_take (ws : List Wd) (q : Nat) (b c : Prop) (hc : ¬ c) : Ag ws (ws.take q) 0 q b c := by
  have hn : (ws.take q)[q]? = none := by rw [List.getElem?_take, if_neg (by omega)]
  refine ⟨fun i hi => ⟨fun x => ?_, fun x => ?_, fun n => ?_⟩, fun x _ h => ?_, fun x h => ?_, fun n h => ?_, fun h => (hc h).elim⟩
  · rw [Nat.zero_add, isS_take hi]
  · rw [Nat.zero_add, isN_take hi]
  · rw [Nat.zero_add, isD_take hi]
  · rw [Nat.zero_add] at h; obtain ⟨w, e, _⟩ := h; rw [hn] at e; cases e
  · rw [Nat.zero_add] at h; obtain ⟨w, e, _⟩ := h; rw [hn] at e; cases e
  · rw [Nat.zero_add] at h; obtain ⟨w, e, _⟩ := h; rw [hn] at e; cases e
/-- cut where it goes wrong: it goes wrong at its end alone, or not at all -/
theorem Fin6.cut {ws : List Wd} {q : Nat} (h : Fin6 ws (.bad 71 q)) : (Fin6 (ws.take q) (.bad 71 q) ∨ ∃ f, Fin6 (ws.take q) (.ok f q)) ∧ (ws.take q).length = q := by
  have hl : (ws.take q).length = q := by rw [List.length_take]; have := h.why.2; omega
  refine ⟨?_, hl⟩
  cases h with
  | bad h =>
    have := PF.ag h (vs := ws.take q) (d := 0) (ag_take ws q _ _ (fun e => by cases e))
    simp only [Out.sh, Nat.zero_add] at this
    exact .inl (.bad this)
  | @rest f _ h hq =>
    have := PF.ag h (vs := ws.take q) (d := 0) (ag_take ws q _ _ (fun e => e))
    simp only [Out.sh, Nat.zero_add] at this
    refine .inr ⟨f, ?_⟩
    have k : Whole (ws.take q) f := by unfold Whole; rw [hl]; exact this
    have := Fin6.ok k
    rwa [hl] at this
/-- what is written behind changes nothing -/
theorem ag_more (ws ms : List Wd) (q : Nat) (hq : q < ws.length) (b c : Prop) : Ag ws (ws ++ ms) 0 q b c := by
  refine ⟨fun i hi => ⟨fun x => ?_, fun x => ?_, fun n => ?_⟩, fun x _ h => ?_, fun x h => ?_, fun n h => ?_, fun _ n h => ?_⟩
  · rw [Nat.zero_add, isS_left (by omega)]
  · rw [Nat.zero_add, isN_left (by omega)]
  · rw [Nat.zero_add, isD_left (by omega)]
  · rwa [Nat.zero_add, isS_left hq] at h
  · rwa [Nat.zero_add, isN_left hq] at h
  · rwa [Nat.zero_add, isD_left hq] at h
  · rwa [Nat.zero_add, isD_left hq]
theorem Fin6.more {ws : List Wd} {e q : Nat} (h : Fin6 ws (.bad e q)) (hq : q < ws.length) (ms : List Wd) : Fin6 (ws ++ ms) (.bad e q) := by
  cases h with
  | bad h =>
    have := PF.ag h (vs := ws ++ ms) (d := 0) (ag_more ws ms q hq _ _)
    simp only [Out.sh, Nat.zero_add] at this
    exact .bad this
  | rest h _ =>
    have := PF.ag h (vs := ws ++ ms) (d := 0) (ag_more ws ms q hq _ _)
    simp only [Out.sh, Nat.zero_add] at this
    exact .rest this (by rw [List.length_append]; omega)
theorem Fin6.made {nm : ByteArray → Bool} {ws : List Wd} (hg : GoodW nm ws) {f : Fm} {q : Nat} (h : Fin6 ws (.ok f q)) : mdF nm f ∧ q = ws.length := by
  cases h with
  | ok h => exact ⟨PF.made hg h, rfl⟩
end Go.Proofs.YtabfhdmcljdjhaaDoor.Gl
