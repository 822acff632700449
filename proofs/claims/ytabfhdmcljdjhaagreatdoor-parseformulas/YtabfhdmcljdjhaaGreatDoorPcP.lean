/- What the grammar reads is well made; what Check says of a well made tree: plain mathematics. -/
import Derived.Test.YtabfhdmcljdjhaaGreatDoorPaC
import Derived.Test.YtabfhdmcljdjhaaGreatDoorPcO
import Derived.Test.YtabfhdmcljdjhaaGreatDoorNdF
import Derived.Test.YtabfhdmcljdjhaaGreatDoorLyH
namespace Go.Proofs.YtabfhdmcljdjhaaGreatDoor.Gl
set_option linter.unusedVariables false
set_option linter.unusedSimpArgs false

def E3 (s : St) : Prop := s.e = 0 ∨ s.e = 72 ∨ s.e = 73
theorem node_e3 {dp : Nat} {s : St} (h : E3 s) : E3 (s.node dp true) := by
  unfold E3 St.node at *
  simp only [if_true]
  split
  · exact .inr (.inr rfl)
  · split
    · exact .inr (.inl rfl)
    · exact h
theorem meterTL_e3 {nm : ByteArray → Bool} {l : List Tm} (hl : ∀ t ∈ l, ∀ dp s, t.all (wellT nm) = true → E3 s → E3 (meterT nm t dp s)) (dp : Nat) : ∀ s, Tm.allL (wellT nm) l = true → E3 s → E3 (meterTL nm l dp s) := by
  induction l with
  | nil => intro s _ h; rw [meterTL]; exact h
  | cons t r ih =>
    intro s ha h
    rw [Tm.allL, Bool.and_eq_true] at ha
    rw [meterTL]
    split
    · exact ih (fun u hu => hl u (List.mem_cons_of_mem _ hu)) _ ha.2 (hl t (List.mem_cons_self ..) dp s ha.1 h)
    · exact h
theorem meterT_e3 (nm : ByteArray → Bool) : ∀ t dp s, t.all (wellT nm) = true → E3 s → E3 (meterT nm t dp s) := by
  refine Tm.ind (fun o n x a ih dp s ha h => ?_)
  rw [Tm.all, Bool.and_eq_true] at ha
  rw [meterT, ha.1]
  exact meterTL_e3 ih _ _ ha.2 (node_e3 h)
theorem meterFL_e3 {nm : ByteArray → Bool} {l : List Fm} (hl : ∀ t ∈ l, ∀ dp s, t.all (wellT nm) (wellF nm) = true → E3 s → E3 (meterF nm t dp s)) (dp : Nat) : ∀ s, Fm.allL (wellT nm) (wellF nm) l = true → E3 s → E3 (meterFL nm l dp s) := by
  induction l with
  | nil => intro s _ h; rw [meterFL]; exact h
  | cons t r ih =>
    intro s ha h
    rw [Fm.allL, Bool.and_eq_true] at ha
    rw [meterFL]
    split
    · exact ih (fun u hu => hl u (List.mem_cons_of_mem _ hu)) _ ha.2 (hl t (List.mem_cons_self ..) dp s ha.1 h)
    · exact h
theorem meterF_e3 (nm : ByteArray → Bool) : ∀ f dp s, f.all (wellT nm) (wellF nm) = true → E3 s → E3 (meterF nm f dp s) := by
  refine Fm.ind (fun o x m t a ih dp s ha h => ?_)
  rw [Fm.all, Bool.and_eq_true, Bool.and_eq_true] at ha
  rw [meterF, ha.1.1]
  exact meterFL_e3 ih _ _ ha.2 (meterTL_e3 (fun u _ dp s => meterT_e3 nm u dp s) _ _ ha.1.2 (node_e3 h))
theorem chk_made {nm : ByteArray → Bool} {f : Fm} (h : f.all (wellT nm) (wellF nm) = true) : chk nm f = 0 ∨ chk nm f = 72 ∨ chk nm f = 73 := meterF_e3 nm f 1 ⟨0, 0, 0⟩ h (.inl rfl)
/- words whose names are names -/
def GoodW (nm : ByteArray → Bool) (ws : List Wd) : Prop := ∀ p x, IsN ws p x → nm x = true
def QT.fine (nm : ByteArray → Bool) : QT → Prop
  | .prodL x => x.all (wellT nm) = true
  | .sumL x => x.all (wellT nm) = true
  | _ => True
def Out.mdT (nm : ByteArray → Bool) : Out Tm → Prop
  | .ok x _ => x.all (wellT nm) = true
  | .bad _ _ => True
theorem all_bin {nm : ByteArray → Bool} {o : Int} (ho : o = 3 ∨ o = 4 ∨ o = 5) {x y : Tm} (hx : x.all (wellT nm) = true) (hy : y.all (wellT nm) = true) : (Tm.mk o 0 emp [x, y]).all (wellT nm) = true := by
  have e : emp.toList = [] := by decide +kernel
  rcases ho with rfl | rfl | rfl <;> simp [Tm.all, Tm.allL, wellT, wT, hx, hy, e]
theorem PT.made {nm : ByteArray → Bool} {ws : List Wd} (hg : GoodW nm ws) {k : QT} {p : Nat} {r : Out Tm} (h : PT ws k p r) : k.fine nm → r.mdT nm := by
  have e : emp.toList = [] := by decide +kernel
  induction h with
  | sq a h b i => intro _; exact i trivial
  | neg a h i => intro _; have := i trivial; simp only [Out.mdT] at *; simp [Tm.all, Tm.allL, wellT, wT, this, e]
  | name a => intro _; simp [Out.mdT, Tm.all, Tm.allL, wellT, wT, hg _ _ a]
  | num a => intro _; simp [Out.mdT, Tm.all, Tm.allL, wellT, wT, e]
  | prod _ _ i j => intro _; exact j (i trivial)
  | prodStop _ => intro h; exact h
  | prodL _ _ _ i j => intro h; exact j (all_bin (.inr (.inr rfl)) h (i trivial))
  | sum _ _ i j => intro _; exact j (i trivial)
  | sumStop _ _ => intro h; exact h
  | add _ _ _ i j => intro h; exact j (all_bin (.inl rfl) h (i trivial))
  | sub _ _ _ i j => intro h; exact j (all_bin (.inr (.inl rfl)) h (i trivial))
  | _ => intro _; trivial
abbrev mdF (nm : ByteArray → Bool) (f : Fm) : Prop := f.all (wellT nm) (wellF nm) = true
theorem PA.made {nm : ByteArray → Bool} {ws : List Wd} (hg : GoodW nm ws) {p : Nat} {r : Out Fm} (h : PA ws p r) : ∀ f q, r = .ok f q → mdF nm f := by
  have e : emp.toList = [] := by decide +kernel
  intro f q hr
  cases h with
  | @rel a0 _ i b0 _ a hi s b =>
    cases hr
    have ha : Tm.all (wellT nm) a0 = true := a.made hg trivial
    have hb : Tm.all (wellT nm) b0 = true := b.made hg trivial
    have : i = 0 ∨ i = 1 ∨ i = 2 ∨ i = 3 ∨ i = 4 ∨ i = 5 := by omega
    rcases this with rfl | rfl | rfl | rfl | rfl | rfl <;> (unfold mdF; simp [Fm.all, Fm.allL, Tm.allL, wellF, wF, ha, hb, e])
  | @cong a0 _ b0 _ n a s b t u hn =>
    cases hr
    have ha : Tm.all (wellT nm) a0 = true := a.made hg trivial
    have hb : Tm.all (wellT nm) b0 = true := b.made hg trivial
    show Fm.all (wellT nm) (wellF nm) (.mk 15 emp (n : Int) [a0, b0] []) = true
    simp [Fm.all, Fm.allL, Tm.allL, wellF, wF, ha, hb, e]
    omega
  | _ => cases hr
theorem md_pair {nm : ByteArray → Bool} {o : Int} (ho : 3 ≤ o ∧ o ≤ 6) {a b : Fm} (ha : mdF nm a) (hb : mdF nm b) : mdF nm (fPair o a b) := by
  have e : emp.toList = [] := by decide +kernel
  obtain ⟨h1, h2⟩ := ho
  have : o = 3 ∨ o = 4 ∨ o = 5 ∨ o = 6 := by omega
  simp only [mdF] at *
  rcases this with rfl | rfl | rfl | rfl <;> simp [Fm.all, Fm.allL, Tm.allL, wellF, wF, ha, hb, e]
theorem op_in (n : Nat) : 3 ≤ opOf n ∧ opOf n ≤ 6 := by
  unfold opOf
  split <;> decide
theorem md_foldL {nm : ByteArray → Bool} {o : Int} (ho : 3 ≤ o ∧ o ≤ 6) : ∀ (l : List Fm) (a : Fm), mdF nm a → (∀ f ∈ l, mdF nm f) → mdF nm (foldL o a l) := by
  intro l
  induction l with
  | nil => intro a ha _; exact ha
  | cons b l ih => intro a ha hl; exact ih _ (md_pair ho ha (hl b (List.mem_cons_self ..))) (fun f hf => hl f (List.mem_cons_of_mem _ hf))
theorem md_foldR {nm : ByteArray → Bool} {o : Int} (ho : 3 ≤ o ∧ o ≤ 6) : ∀ (l : List Fm) (a : Fm), mdF nm a → (∀ f ∈ l, mdF nm f) → mdF nm (foldR o a l) := by
  intro l
  induction l with
  | nil => intro a ha _; exact ha
  | cons b l ih => intro a ha hl; exact md_pair ho ha (ih _ (hl b (List.mem_cons_self ..)) (fun f hf => hl f (List.mem_cons_of_mem _ hf)))
theorem md_fold {nm : ByteArray → Bool} (n : Nat) {l : List Fm} {a : Fm} (ha : mdF nm a) (hl : ∀ f ∈ l, mdF nm f) : mdF nm (fold n a l) := by
  unfold fold
  split
  · exact md_foldR (op_in n) l a ha hl
  · exact md_foldL (op_in n) l a ha hl
theorem md_quants {nm : ByteArray → Bool} {o : Int} (ho : o = 7 ∨ o = 8) {f : Fm} (hf : mdF nm f) : ∀ l : List ByteArray, (∀ x ∈ l, nm x = true) → mdF nm (quants o l f) := by
  intro l
  induction l with
  | nil => intro _; exact hf
  | cons x l ih =>
    intro hl
    have h1 := ih (fun y hy => hl y (List.mem_cons_of_mem _ hy))
    have h2 := hl x (List.mem_cons_self ..)
    simp only [quants, mdF] at *
    rcases ho with rfl | rfl <;> simp [Fm.all, Fm.allL, Tm.allL, wellF, wF, h1, h2]
theorem PN.made {nm : ByteArray → Bool} {ws : List Wd} (hg : GoodW nm ws) {p : Nat} {r : Out (List ByteArray)} (h : PN ws p r) : ∀ l q, r = .ok l q → ∀ x ∈ l, nm x = true := by
  induction h with
  | last a _ => intro l q hr; cases hr; intro x hx; simp at hx; subst hx; exact hg _ _ a
  | more a b h i =>
    intro l q hr
    cases hr
    intro x hx
    rcases List.mem_cons.1 hx with rfl | hx
    · exact hg _ _ a
    · exact i _ _ rfl x hx
  | _ => intro l q hr; cases hr
def Out.mdR (nm : ByteArray → Bool) : Out Rs → Prop
  | .ok (.f f) _ => mdF nm f
  | .ok (.l l) _ => ∀ f ∈ l, mdF nm f
  | .bad _ _ => True
theorem PF.made {nm : ByteArray → Bool} {ws : List Wd} (hg : GoodW nm ws) {k : QF} {p : Nat} {r : Out Rs} (h : PF ws k p r) : r.mdR nm := by
  have e : emp.toList = [] := by decide +kernel
  induction h with
  | un _ i => exact i
  | lev hn _ _ i j => exact md_fold _ i j
  | stop _ _ => intro f hf; cases hf
  | tail _ _ _ _ i j =>
    intro f hf
    rcases List.mem_cons.1 hf with rfl | hf
    · exact i
    · exact j f hf
  | not _ _ i => simp only [Out.mdR, mdF] at *; simp [Fm.all, Fm.allL, Tm.allL, wellF, wF, i, e]
  | qu hx _ h _ _ i =>
    refine md_quants ?_ i _ (h.made hg _ _ rfl)
    simp at hx
    rcases hx with hx | hx
    · exact .inl hx.2
    · exact .inr hx.2
  | br _ _ _ i => exact i
  | tru _ => simp [Out.mdR, mdF, Fm.all, Fm.allL, Tm.allL, wellF, wF, e]
  | fls _ => simp [Out.mdR, mdF, Fm.all, Fm.allL, Tm.allL, wellF, wF, e]
  | atom _ h => exact h.made hg _ _ rfl
  | _ => trivial
end Go.Proofs.YtabfhdmcljdjhaaGreatDoor.Gl
/- Formulas in brackets, put together: plain mathematics. -/
namespace Go.Proofs.YtabfhdmcljdjhaaGreatDoor.Gl
set_option linter.unusedVariables false
set_option linter.unusedSimpArgs false

theorem isS_right {l r : List Wd} {i : Nat} {x : ByteArray} : IsS (l ++ r) (l.length + i) x ↔ IsS r i x := by
  unfold IsS
  rw [List.getElem?_append_right (by omega), show l.length + i - l.length = i by omega]
theorem isN_right {l r : List Wd} {i : Nat} {x : ByteArray} : IsN (l ++ r) (l.length + i) x ↔ IsN r i x := by
  unfold IsN
  rw [List.getElem?_append_right (by omega), show l.length + i - l.length = i by omega]
theorem isD_right {l r : List Wd} {i n : Nat} : IsD (l ++ r) (l.length + i) n ↔ IsD r i n := by
  unfold IsD
  rw [List.getElem?_append_right (by omega), show l.length + i - l.length = i by omega]
theorem isS_left {l r : List Wd} {i : Nat} (h : i < l.length) {x : ByteArray} : IsS (l ++ r) i x ↔ IsS l i x := by
  unfold IsS
  rw [List.getElem?_append_left h]
theorem isN_left {l r : List Wd} {i : Nat} (h : i < l.length) {x : ByteArray} : IsN (l ++ r) i x ↔ IsN l i x := by
  unfold IsN
  rw [List.getElem?_append_left h]
theorem isD_left {l r : List Wd} {i : Nat} (h : i < l.length) {n : Nat} : IsD (l ++ r) i n ↔ IsD l i n := by
  unfold IsD
  rw [List.getElem?_append_left h]
theorem isS_map {l : List Wd} {k i : Nat} {x : ByteArray} : IsS (l.map (Wd.move k)) i x ↔ IsS l i x := by
  unfold IsS
  rw [List.getElem?_map]
  cases l[i]? with
  | none => simp
  | some w => simp [Wd.move]
theorem isN_map {l : List Wd} {k i : Nat} {x : ByteArray} : IsN (l.map (Wd.move k)) i x ↔ IsN l i x := by
  unfold IsN
  rw [List.getElem?_map]
  cases l[i]? with
  | none => simp
  | some w => simp [Wd.move]
theorem isD_map {l : List Wd} {k i n : Nat} : IsD (l.map (Wd.move k)) i n ↔ IsD l i n := by
  unfold IsD
  rw [List.getElem?_map]
  cases l[i]? with
  | none => simp
  | some w => simp [Wd.move]
theorem isS_head {w : Wd} {l : List Wd} {x : ByteArray} : IsS (w :: l) 0 x ↔ w.kind = 2 ∧ w.text = x := by
  unfold IsS
  simp
/-- words that are a formula, whole -/
def Whole (ws : List Wd) (f : Fm) : Prop := PF ws (.lev 0) 0 (.ok (.f f) ws.length)
/-- what stands behind is a shutting bracket -/
theorem ag_shut {pre ws post : List Wd} {k : Nat} {wc : Wd} (hc : wc.kind = 2 ∧ wc.text = kShut) : Ag ws (pre ++ (ws.map (Wd.move k) ++ wc :: post)) pre.length ws.length False False := by
  have key : ∀ x, IsS (pre ++ (ws.map (Wd.move k) ++ wc :: post)) (pre.length + ws.length) x → x = kShut := by
    intro x h
    have h := isS_right.1 h
    rw [show ws.length = (ws.map (Wd.move k)).length + 0 by simp] at h
    have h := isS_right.1 h
    exact (isS_head.1 h).2.symm.trans hc.2
  refine ⟨fun i hi => ⟨fun x => ?_, fun x => ?_, fun n => ?_⟩, fun x hx h => (hx (key x h)).elim, fun x h => ?_, fun n h => ?_, fun h => h.elim⟩
  · rw [isS_right, isS_left (by simpa using hi), isS_map]
  · rw [isN_right, isN_left (by simpa using hi), isN_map]
  · rw [isD_right, isD_left (by simpa using hi), isD_map]
  · have h := isN_right.1 h
    rw [show ws.length = (ws.map (Wd.move k)).length + 0 by simp] at h
    have h := isN_right.1 h
    obtain ⟨w, e, h0, _⟩ := h
    simp at e
    subst e
    rw [hc.1] at h0
    cases h0
  · have h := isD_right.1 h
    rw [show ws.length = (ws.map (Wd.move k)).length + 0 by simp] at h
    have h := isD_right.1 h
    obtain ⟨w, e, h0, _⟩ := h
    simp at e
    subst e
    rw [hc.1] at h0
    cases h0
/-- a formula in brackets is a unary -/
theorem un_br {pre ws post : List Wd} {k : Nat} {wo wc : Wd} {f : Fm} (ho : wo.kind = 2 ∧ wo.text = kOpen) (hc : wc.kind = 2 ∧ wc.text = kShut) (h : Whole ws f) :
    PF (pre ++ wo :: (ws.map (Wd.move k) ++ wc :: post)) .un pre.length (.ok (.f f) (pre.length + (ws.length + 2))) := by
  have hA := ag_shut (pre := pre ++ [wo]) (ws := ws) (post := post) (k := k) hc
  have e : pre ++ [wo] ++ (ws.map (Wd.move k) ++ wc :: post) = pre ++ wo :: (ws.map (Wd.move k) ++ wc :: post) := by simp
  rw [e] at hA
  have hl := PF.ag h hA
  have e1 : (pre ++ [wo]).length = pre.length + 1 := by simp
  simp only [Out.sh, e1, Nat.add_zero] at hl
  have h0 : IsS (pre ++ wo :: (ws.map (Wd.move k) ++ wc :: post)) pre.length kOpen := by
    have := isS_right (l := pre) (r := wo :: (ws.map (Wd.move k) ++ wc :: post)) (i := 0) (x := kOpen)
    exact this.2 (isS_head.2 ho)
  have h1 : IsS (pre ++ wo :: (ws.map (Wd.move k) ++ wc :: post)) (pre.length + 1 + ws.length) kShut := by
    rw [← e, ← e1]
    refine isS_right.2 ?_
    rw [show ws.length = (ws.map (Wd.move k)).length + 0 by simp]
    exact isS_right.2 (isS_head.2 hc)
  have := PF.br h0 hl h1
  rwa [show pre.length + 1 + ws.length + 1 = pre.length + (ws.length + 2) by omega] at this
/-- no joint at q of the levels from n on -/
def NoJ (vs : List Wd) (n q : Nat) : Prop := ∀ m, n ≤ m → m < 4 → ¬ IsS vs q (sgOf m)
theorem NoJ.mono {vs : List Wd} {n n' q : Nat} (h : NoJ vs n q) (hn : n ≤ n') : NoJ vs n' q := fun m h1 h2 => h m (by omega) h2
theorem fold_nil (n : Nat) (a : Fm) : fold n a [] = a := by unfold fold; split <;> rfl
theorem lev_up {vs : List Wd} {n m p q : Nat} {f : Fm} (hn : n ≤ m) (hm : m ≤ 4) (h : PF vs (.lev m) p (.ok (.f f) q)) (hj : NoJ vs n q) : PF vs (.lev n) p (.ok (.f f) q) := by
  have key : ∀ i, i + n ≤ m → PF vs (.lev (m - i)) p (.ok (.f f) q) := by
    intro i
    induction i with
    | zero => intro _; exact h
    | succ i ih =>
      intro hi
      have h1 := ih (by omega)
      rw [show m - i = m - (i + 1) + 1 by omega] at h1
      have := PF.lev (by omega) h1 (.stop (by omega) (hj _ (by omega) (by omega)))
      rwa [fold_nil] at this
  have := key (m - n) (by omega)
  rwa [show m - (m - n) = n by omega] at this
theorem lev_un {vs : List Wd} {n p q : Nat} {f : Fm} (hn : n ≤ 4) (h : PF vs .un p (.ok (.f f) q)) (hj : NoJ vs n q) : PF vs (.lev n) p (.ok (.f f) q) := lev_up hn (Nat.le_refl _) (.un h) hj
/-- two parts with a joint between -/
theorem lev_two {vs : List Wd} {n p q q' : Nat} {f g : Fm} (hn : n < 4) (h1 : PF vs (.lev (n + 1)) p (.ok (.f f) q)) (hs : IsS vs q (sgOf n)) (h2 : PF vs (.lev (n + 1)) (q + 1) (.ok (.f g) q')) (hj : ¬ IsS vs q' (sgOf n)) :
    PF vs (.lev n) p (.ok (.f (fPair (opOf n) f g)) q') := by
  have := PF.lev hn h1 (.tail hn hs h2 (.stop hn hj))
  have e : fold n f [g] = fPair (opOf n) f g := by unfold fold; split <;> rfl
  rwa [e] at this
/-- three -/
theorem lev_three {vs : List Wd} {n p q q' q2 : Nat} {f g h : Fm} (hn : n < 4) (h1 : PF vs (.lev (n + 1)) p (.ok (.f f) q)) (hs : IsS vs q (sgOf n)) (h2 : PF vs (.lev (n + 1)) (q + 1) (.ok (.f g) q')) (hs' : IsS vs q' (sgOf n)) (h3 : PF vs (.lev (n + 1)) (q' + 1) (.ok (.f h) q2)) (hj : ¬ IsS vs q2 (sgOf n)) :
    PF vs (.lev n) p (.ok (.f (if n = 1 then fPair (opOf n) f (fPair (opOf n) g h) else fPair (opOf n) (fPair (opOf n) f g) h)) q2) := by
  have := PF.lev hn h1 (.tail hn hs h2 (.tail hn hs' h3 (.stop hn hj)))
  have e : fold n f [g, h] = if n = 1 then fPair (opOf n) f (fPair (opOf n) g h) else fPair (opOf n) (fPair (opOf n) f g) h := by unfold fold; split <;> rfl
  rwa [e] at this
/- at the end there is no joint; at a joint no other one -/
theorem noj_end {vs : List Wd} {n q : Nat} (h : vs.length ≤ q) : NoJ vs n q := fun m _ _ k => by have := k.lt; omega
theorem sg_inj {m n : Nat} (hm : m < 4) (hn : n < 4) (h : sgOf m = sgOf n) : m = n := by
  have : ∀ m, m < 4 → ∀ n, n < 4 → sgOf m = sgOf n → m = n := by decide +kernel
  exact this m hm n hn h
theorem noj_above {vs : List Wd} {n q : Nat} (hn : n < 4) (h : IsS vs q (sgOf n)) : NoJ vs (n + 1) q := fun m h1 h2 k => by
  have := sg_inj h2 hn (k.one h)
  omega
end Go.Proofs.YtabfhdmcljdjhaaGreatDoor.Gl
/- Where a text goes wrong: plain mathematics. -/
namespace Go.Proofs.YtabfhdmcljdjhaaGreatDoor.Gl
set_option linter.unusedVariables false
set_option linter.unusedSimpArgs false

/-- what is said of all the words -/
inductive Fin6 (ws : List Wd) : Out Fm → Prop
  | bad {e q} : PF ws (.lev 0) 0 (.bad e q) → Fin6 ws (.bad e q)
  | rest {f q} : PF ws (.lev 0) 0 (.ok (.f f) q) → q < ws.length → Fin6 ws (.bad 71 q)
  | ok {f} : Whole ws f → Fin6 ws (.ok f ws.length)
theorem Fin6.ex (ws : List Wd) : ∃ r, Fin6 ws r := by
  obtain ⟨r, hr⟩ := ((PF.ex ws _ 0 (Nat.le_refl _)).2 0 (by omega)).1
  cases r with
  | bad e q => exact ⟨_, .bad hr⟩
  | ok a q =>
    cases a with
    | l a => exact absurd hr.fits (by simp [Out.fits])
    | f f =>
      have := hr.far
      simp only [Out.far, QF.more] at this
      by_cases h : q < ws.length
      · exact ⟨_, .rest hr h⟩
      · obtain rfl : q = ws.length := by omega
        exact ⟨_, .ok hr⟩
theorem PA.why {ws : List Wd} {p : Nat} {r : Out Fm} (h : PA ws p r) : ∀ e q, r = .bad e q → e = 71 ∨ e = 92 := by
  intro e q hr
  cases h with
  | bad1 a => cases hr; exact .inl (a.sub71 _ _ rfl)
  | bad2 _ _ _ a => cases hr; exact .inl (a.sub71 _ _ rfl)
  | none _ _ => cases hr; exact .inl rfl
  | noMod _ _ _ _ => cases hr; exact .inl rfl
  | noNum _ _ _ _ _ => cases hr; exact .inl rfl
  | zero _ _ _ _ _ => cases hr; exact .inr rfl
  | _ => cases hr
theorem PN.why {ws : List Wd} {p : Nat} {r : Out (List ByteArray)} (h : PN ws p r) : ∀ e q, r = .bad e q → e = 71 := by
  induction h with
  | none _ => intro e q hr; cases hr; rfl
  | bad _ _ _ i => exact i
  | _ => intro e q hr; cases hr
theorem PF.why {ws : List Wd} {k : QF} {p : Nat} {r : Out Rs} (h : PF ws k p r) : ∀ e q, r = .bad e q → e = 71 ∨ e = 92 := by
  induction h with
  | un _ i => exact i
  | levBad _ _ i => exact i
  | levTail _ _ _ _ j => exact j
  | tailBad _ _ _ i => exact i
  | tailTail _ _ _ _ _ j => exact j
  | notBad _ _ i => exact i
  | quNames _ _ h => intro e q hr; cases hr; exact .inl (h.why _ _ rfl)
  | quDot _ _ _ _ => intro e q hr; cases hr; exact .inl rfl
  | quBad _ _ _ _ _ i => exact i
  | brBad _ _ i => exact i
  | brNo _ _ _ _ => intro e q hr; cases hr; exact .inl rfl
  | atomBad _ h => intro e q hr; cases hr; exact h.why _ _ rfl
  | _ => intro e q hr; cases hr
theorem Fin6.why {ws : List Wd} {e q : Nat} (h : Fin6 ws (.bad e q)) : (e = 71 ∨ e = 92) ∧ q ≤ ws.length := by
  cases h with
  | bad h => have := h.far; simp only [Out.far, QF.more] at this; exact ⟨h.why _ _ rfl, by omega⟩
  | rest h hq => exact ⟨.inl rfl, by omega⟩
/- words cut: nothing stands at the end -/
theorem isS_take {ws : List Wd} {q i : Nat} (h : i < q) {x : ByteArray} : IsS (ws.take q) i x ↔ IsS ws i x := by unfold IsS; rw [List.getElem?_take, if_pos h]
theorem isN_take {ws : List Wd} {q i : Nat} (h : i < q) {x : ByteArray} : IsN (ws.take q) i x ↔ IsN ws i x := by unfold IsN; rw [List.getElem?_take, if_pos h]
theorem isD_take {ws : List Wd} {q i n : Nat} (h : i < q) : IsD (ws.take q) i n ↔ IsD ws i n := by unfold IsD; rw [List.getElem?_take, if_pos h]
theorem ag_take (ws : List Wd) (q : Nat) (b c : Prop) (hc : ¬ c) : Ag ws (ws.take q) 0 q b c := by
  have hn : (ws.take q)[q]? = none := by rw [List.getElem?_take, if_neg (by omega)]
  refine ⟨fun i hi => ⟨fun x => ?_, fun x => ?_, fun n => ?_⟩, fun x _ h => ?_, fun x h => ?_, fun n h => ?_, fun h => (hc h).elim⟩
  · rw [Nat.zero_add, isS_take hi]
  · rw [Nat.zero_add, isN_take hi]
  · rw [Nat.zero_add, isD_take hi]
  · rw [Nat.zero_add] at h; obtain ⟨w, e, _⟩ := h; rw [hn] at e; cases e
  · rw [Nat.zero_add] at h; obtain ⟨w, e, _⟩ := h; rw [hn] at e; cases e
  · rw [Nat.zero_add] at h; obtain ⟨w, e, _⟩ := h; rw [hn] at e; cases e
/-- cut where it goes wrong: it goes wrong at its end alone, or not at all -/
theorem Fin6.cut {ws : List Wd} {q : Nat} (h : Fin6 ws (.bad 71 q)) : (Fin6 (ws.take q) (.bad 71 q) ∨ ∃ f, Fin6 (ws.take q) (.ok f q)) ∧ (ws.take q).length = q := by
  have hl : (ws.take q).length = q := by rw [List.length_take]; have := h.why.2; omega
  refine ⟨?_, hl⟩
  cases h with
  | bad h =>
    have := PF.ag h (vs := ws.take q) (d := 0) (ag_take ws q _ _ (fun e => by cases e))
    simp only [Out.sh, Nat.zero_add] at this
    exact .inl (.bad this)
  | @rest f _ h hq =>
    have := PF.ag h (vs := ws.take q) (d := 0) (ag_take ws q _ _ (fun e => e))
    simp only [Out.sh, Nat.zero_add] at this
    refine .inr ⟨f, ?_⟩
    have k : Whole (ws.take q) f := by unfold Whole; rw [hl]; exact this
    have := Fin6.ok k
    rwa [hl] at this
/-- what is written behind changes nothing -/
theorem ag_more (ws ms : List Wd) (q : Nat) (hq : q < ws.length) (b c : Prop) : Ag ws (ws ++ ms) 0 q b c := by
  refine ⟨fun i hi => ⟨fun x => ?_, fun x => ?_, fun n => ?_⟩, fun x _ h => ?_, fun x h => ?_, fun n h => ?_, fun _ n h => ?_⟩
  · rw [Nat.zero_add, isS_left (by omega)]
  · rw [Nat.zero_add, isN_left (by omega)]
  · rw [Nat.zero_add, isD_left (by omega)]
  · rwa [Nat.zero_add, isS_left hq] at h
  · rwa [Nat.zero_add, isN_left hq] at h
  · rwa [Nat.zero_add, isD_left hq] at h
  · rwa [Nat.zero_add, isD_left hq]
theorem Fin6.more {ws : List Wd} {e q : Nat} (h : Fin6 ws (.bad e q)) (hq : q < ws.length) (ms : List Wd) : Fin6 (ws ++ ms) (.bad e q) := by
  cases h with
  | bad h =>
    have := PF.ag h (vs := ws ++ ms) (d := 0) (ag_more ws ms q hq _ _)
    simp only [Out.sh, Nat.zero_add] at this
    exact .bad this
  | rest h _ =>
    have := PF.ag h (vs := ws ++ ms) (d := 0) (ag_more ws ms q hq _ _)
    simp only [Out.sh, Nat.zero_add] at this
    exact .rest this (by rw [List.length_append]; omega)
theorem Fin6.made {nm : ByteArray → Bool} {ws : List Wd} (hg : GoodW nm ws) {f : Fm} {q : Nat} (h : Fin6 ws (.ok f q)) : mdF nm f ∧ q = ws.length := by
  cases h with
  | ok h => exact ⟨PF.made hg h, rfl⟩
end Go.Proofs.YtabfhdmcljdjhaaGreatDoor.Gl
/- Words of a text: names are names, numbers fit; RuneCountInString; where a reader begins. -/
namespace Go.Proofs.YtabfhdmcljdjhaaGreatDoor.Gl
open Go.RowKit
set_option linter.unusedVariables false
set_option linter.unusedSimpArgs false

theorem look_in (r : Int) : ∀ (ms : List Int) (xs : List ByteArray), look r ms xs = emp ∨ look r ms xs ∈ xs := by
  intro ms
  induction ms with
  | nil => intro xs; exact .inl (by cases xs <;> rfl)
  | cons m ms ih =>
    intro xs
    cases xs with
    | nil => exact .inl rfl
    | cons x xs =>
      rw [look]
      split
      · exact .inr (List.mem_cons_self ..)
      · rcases ih xs with h | h
        · exact .inl h
        · exact .inr (List.mem_cons_of_mem _ h)
theorem signs_small : ∀ x ∈ signs, x.size ≤ 3 := by decide +kernel
theorem allSigns_small : ∀ x ∈ allSigns, x.size ≤ 3 := by decide +kernel
theorem pl_small (r : Int) : (plB r).size ≤ 3 := by
  rcases look_in r marks signs with h | h
  · show (look r marks signs).size ≤ 3; rw [h]; decide
  · exact signs_small _ h
theorem sgn_small (s : ByteArray) (p : Nat) : (sgn s p).size ≤ 3 := by
  rcases longest_or s p allSigns emp with h | ⟨_, h, _⟩
  · show (longest s p allSigns emp).size ≤ 3; rw [h]; decide
  · exact allSigns_small _ h
theorem tok_ok {s : ByteArray} {p k v q : Nat} {t : ByteArray} (hp : p < s.size) (hs : s.size ≤ 4096) (h : tok s p = .word k t v q) : Sz t.size ∧ v ≤ 9223372036854775807 ∧ (k = 0 → IsName t) := by
  obtain ⟨he, hr⟩ := tok_end s p hp
  have hz := size_win s p s.size (Nat.le_refl _)
  generalize s.extract p s.size = u at he hr hz
  have hu0 : 0 < u.size := by omega
  rw [h] at he
  have hk : ∃ q', tok u 0 = .word k t v q' := by
    cases hq : tok u 0 with
    | blank => rw [hq] at he; cases he
    | bad e => rw [hq] at he; cases he
    | word k' t' v' q' => rw [hq] at he; cases he; exact ⟨_, rfl⟩
  obtain ⟨q', hk⟩ := hk
  rcases tok_cases u 0 with ⟨_, e⟩ | ⟨hbl, ⟨_, e⟩ | ⟨hok, ⟨hst, hc⟩ | ⟨hst, hdg, ⟨_, e⟩ | ⟨hv, e⟩⟩ | ⟨hst, hdg, hpl, e⟩ | ⟨hst, hdg, hpl, ⟨_, e⟩ | ⟨hne, e⟩⟩⟩⟩
  · rw [hk] at e; cases e
  · rw [hk] at e; cases e
  · obtain ⟨hle, hnm⟩ := name_run hu0 hok hst
    have hz : (u.extract 0 (run reN u 0)).size ≤ 4096 := by rw [size_win u 0 _ hle]; omega
    rcases hc with ⟨h1, e⟩ | ⟨_, _, e⟩ | ⟨h1, h2, e⟩
    · rw [hk] at e; cases e; exact ⟨by unfold Sz; omega, by omega, fun h => by cases h⟩
    · rw [hk] at e; cases e
    · rw [hk] at e; cases e; exact ⟨by unfold Sz; omega, by omega, fun _ => (hnm h1).1 (decide_eq_true (by omega))⟩
  · rw [hk] at e; cases e
  · rw [hk] at e; cases e; exact ⟨sz_emp, by omega, fun h => by cases h⟩
  · rw [hk] at e; cases e; exact ⟨by have := pl_small ((rdS u 0).1 : Nat); unfold Sz; omega, by omega, fun h => by cases h⟩
  · rw [hk] at e; cases e
  · rw [hk] at e; cases e; exact ⟨by have := sgn_small u 0; unfold Sz; omega, by omega, fun h => by cases h⟩
theorem Lx.fine {s : ByteArray} (hs : s.size ≤ 4096) {p : Nat} {ws : List Wd} {f : Option (Nat × Nat)} (h : Lx s p ws f) : (∀ y ∈ ws, (Sz y.text.size ∧ y.num ≤ 9223372036854775807) ∧ (y.kind = 0 → IsName y.text)) ∧ ws.length ≤ s.size - p := by
  induction h with
  | done => exact ⟨fun _ h => (nomatch h), Nat.zero_le _⟩
  | blank a _ _ ih => exact ⟨ih.1, by omega⟩
  | bad => exact ⟨fun _ h => (nomatch h), Nat.zero_le _⟩
  | word a b k ih =>
    have hto := tok_to a b
    have hok := tok_ok a hs b
    refine ⟨fun y hy => ?_, by simp only [List.length_cons]; omega⟩
    rcases List.mem_cons.1 hy with rfl | hy
    · exact ⟨⟨hok.1, hok.2.1⟩, hok.2.2⟩
    · exact ih.1 y hy
theorem Lx.wdok {s : ByteArray} (hs : s.size ≤ 4096) {ws : List Wd} {f : Option (Nat × Nat)} (h : Lx s 0 ws f) : WdOk ws := fun y hy => ((h.fine hs).1 y hy).1
theorem Lx.goodw {s : ByteArray} (hs : s.size ≤ 4096) {ws : List Wd} {f : Option (Nat × Nat)} (h : Lx s 0 ws f) : GoodW nmB ws := fun p x ⟨y, hy, hk, hx⟩ => by
  subst hx
  exact (nmB_iff _).2 (((h.fine hs).1 y (List.mem_of_getElem? hy)).2 hk)
set_option maxHeartbeats 1000000 in
theorem runecount_at (s : ByteArray) (w : World) (hs : s.size ≤ 9223372036854775807) :
    Calls Tryz.prog 28 #[.string s] w fun e w' => e = .returned (.int .i64 (cnt s : Nat)) ∧ Below w.heap.size w w' := by
  obtain ⟨n, hn0⟩ : ∃ n, cnt s = n := ⟨_, rfl⟩
  have HN : Hid (IsCnt s n) := by have := cnt_cnt s; rw [hn0] at this; exact this
  rw [hn0]
  clear hn0
  go_enter Tryz.func28, Tryz.ntmps28
  go_wp2
  go_loopw [2] (fun c wr => ∃ k : Nat, c = .int .i64 k ∧ wr = w.iter s (pos s k) ∧ Hid (∀ j, j < k → pos s j < s.size)) (fun _ wr => s.size - wr.iterPos w.heap.size)
  case atStart => exact ⟨0, rfl, rfl, fun j hj => absurd hj (by omega)⟩
  case round =>
    obtain ⟨k, rfl, rfl, hall⟩ := hrel
    obtain ⟨hg1, hg2⟩ := pos_ge s k hall.out
    by_cases hlt : pos s k < s.size
    · obtain ⟨hb1, hb2, hb3⟩ := rd_bd s (pos s k) hlt
      have HS : Hid (pos s (k + 1) = pos s k + (rdS s (pos s k)).2.1) := pos_succ s k
      have HA : Hid (∀ j, j < k + 1 → pos s j < s.size) := fun j hj => by
        rcases Nat.lt_succ_iff_lt_or_eq.1 hj with hj | rfl
        · exact hall.out j hj
        · exact hlt
      have hnx := next_at w s (pos s k) _ _ hlt rfl rfl
      generalize hp : pos s k = p at *
      clear hp
      generalize hr : (rdS s p).1 = r at *
      generalize hw : (rdS s p).2.1 = wd at *
      clear hr hw
      go_wp2
      go_roundw
      case rel => exact ⟨k + 1, by go_num, by rw [HS.out], HA⟩
      case measure => simp only [World.iterPos_iter]; omega
    · have HE : Hid ((k : Int) = (n : Int)) := by
        have := cnt_one HN.out ⟨by omega, hall.out⟩
        show _ = _
        omega
      have hnx := fun ty => run_next_end (P := Tryz.prog) w s (pos s k) ty hlt
      go_wp2
      go_ret
      exact ⟨ret1 HE.out, iter_below _ _ _⟩
/-- where a reader begins -/
theorem Ps.start {W w : World} {s : ByteArray} {ws : List Wd} {ao : Option Addr} {n cap b : Nat} (hT : TxW W s ws ao n cap) (hb : W.heap.size ≤ b) (hB : Below W.heap.size W w) (hR : Rb w b (rdC (.slice ao n cap) s.size (cnt s) 0 0 0) 77) : Ps ⟨W, s, ws, ao, n, cap, b⟩ w (.at 0) := by
  refine ⟨hT, hb, hB, Nat.zero_le _, ao, cap, fun hlt => ?_, by rw [Nat.sub_zero]; exact hR⟩
  obtain ⟨g, off, e, _⟩ := hT.rd.cell 0 hlt
  exact ⟨g, off, e, by rw [e]; simp, by rw [Nat.sub_zero]; exact hT.rd.lecap, Nat.le_refl _⟩
/-- what a text is as a formula: the formula, or why not and where -/
inductive An (s : ByteArray) : Option Fm → Nat → Nat → Nat → Prop
  | long : 4096 < s.size → An s none 70 0 0
  | lex {a c p} : s.size ≤ 4096 → Lx s 0 a (some (c, p)) → An s none c p (cnt (s.extract 0 p))
  | bad {a y q} : s.size ≤ 4096 → Lx s 0 a none → Fin6 a (.bad y q) → An s none y (pcB s a q) (pcC s a q)
  | many {a f q} : s.size ≤ 4096 → Lx s 0 a none → Fin6 a (.ok f q) → chk nmB f ≠ 0 → An s none (chk nmB f) 0 0
  | ok {a f q} : s.size ≤ 4096 → Lx s 0 a none → Fin6 a (.ok f q) → chk nmB f = 0 → An s (some f) 0 0 0
theorem An.ex (s : ByteArray) : ∃ o c b k, An s o c b k := by
  by_cases h : 4096 < s.size
  · exact ⟨_, _, _, _, .long h⟩
  · obtain ⟨a, f, hl⟩ := Lx.ex s
    cases f with
    | some cp => obtain ⟨c, p⟩ := cp; exact ⟨_, _, _, _, .lex (by omega) hl⟩
    | none =>
      obtain ⟨r, hr⟩ := Fin6.ex a
      cases r with
      | bad y q => exact ⟨_, _, _, _, .bad (by omega) hl hr⟩
      | ok f q =>
        by_cases h0 : chk nmB f = 0
        · exact ⟨_, _, _, _, .ok (by omega) hl hr h0⟩
        · exact ⟨_, _, _, _, .many (by omega) hl hr h0⟩
abbrev nilF : Value := .agg #[.int .i64 0, .string emp, .int .i64 0, .slice none 0 0, .slice none 0 0]
/-- the value beside a fault, or the formula's, its lists in blocks from B on -/
def FmA (B : Nat) (w : World) (o : Option Fm) (v : Value) : Prop := ∃ op xs m bo n1 c1 ao n c, v = .agg #[.int .i64 op, .string xs, .int .i64 m, .slice bo n1 c1, .slice ao n c] ∧ (o = none → v = nilF) ∧ ∀ f, o = some f → RdFn (Ge B) w f (.int .i64 op) (.string xs) (.int .i64 m) (.slice bo n1 c1) (.slice ao n c)
end Go.Proofs.YtabfhdmcljdjhaaGreatDoor.Gl
