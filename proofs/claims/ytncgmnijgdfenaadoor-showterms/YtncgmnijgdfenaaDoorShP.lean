/- The text of a tree, as pieces: plain mathematics. -/
import Derived.Test.YtncgmnijgdfenaaDoorLxF
import Derived.Test.YtncgmnijgdfenaaDoorPaB
namespace Go.Proofs.YtncgmnijgdfenaaDoor.Gl
set_option linter.unusedVariables false
set_option linter.unusedSimpArgs false

/-- a blank; a word as it is written, its kind, text and number; a sign that needs no blank behind -/
inductive Pc where
  | b
  | w (k : Nat) (x t : ByteArray) (v : Nat)
  | s (x : ByteArray)
def Pc.txt : Pc → ByteArray
  | .b => blk
  | .w _ x _ _ => x
  | .s x => x
def catP : List Pc → ByteArray
  | [] => emp
  | p :: l => p.txt ++ catP l
theorem emp_app (x : ByteArray) : emp ++ x = x := ByteArray.empty_append
theorem cat_app (l m : List Pc) : catP (l ++ m) = catP l ++ catP m := by
  induction l with
  | nil => exact (emp_app _).symm
  | cons p l ih => show p.txt ++ catP (l ++ m) = p.txt ++ catP l ++ catP m; rw [ih, ByteArray.append_assoc]
abbrev numP (n : Int) : Pc := .w 1 (dec n.toNat) emp n.toNat
abbrev namP (x : ByteArray) : Pc := .w 0 x x 0
abbrev sgP (x : ByteArray) : Pc := .w 2 x x 0
def brkP (b : Bool) (l : List Pc) : List Pc := if b = true then .s kSq :: (l ++ [.s kQs]) else l
/-- do square brackets stand round a term of the kind o, as a part of one of the kind v? -/
def needB (o v : Int) (place : Nat) : Bool := (decide (o = 3 ∨ o = 4) && (decide (v = 2 ∨ v = 5) || decide (place = 1))) || (decide (o = 5) && (decide (v = 2) || (decide (v = 5) && decide (place = 1))))
def heldP (v : Int) (place : Nat) (q : Int × List Pc) : List Pc := brkP (needB q.1 v place) q.2
def strT (o : Int) : Nat := if o = 3 ∨ o = 4 then 0 else if o = 5 then 1 else 2
def tsg (o : Int) : ByteArray := if o = 3 then kPlus else if o = 4 then kMinus else kStar
def jsg (o : Int) : ByteArray := sgOf (6 - o).toNat
def rsg (o : Int) : ByteArray := rels.getD (o - 9).toNat emp
def qsg (o : Int) : ByteArray := if o = 7 then kEx else kAll
abbrev noT : Int × List Pc := (0, [])
def tmPc (o n : Int) (x : ByteArray) (ps : List (Int × List Pc)) : List Pc :=
  if o = 0 then [numP n] else if o = 1 then [namP x] else if o = 2 then .s kMinus :: heldP 2 0 (ps.getD 0 noT)
  else heldP o 0 (ps.getD 0 noT) ++ .b :: sgP (tsg o) :: .b :: heldP o 1 (ps.getD 1 noT)
mutual
def pcT : Tm → List Pc | .mk o n x a => tmPc o n x (pcTL a)
def pcTL : List Tm → List (Int × List Pc) | [] => [] | t :: r => (t.op, pcT t) :: pcTL r
end
def fmPc (o : Int) (x : ByteArray) (m : Int) (ts : List (Int × List Pc)) (ps : List (List Pc)) : List Pc :=
  if o = 0 then [sgP kTrue] else if o = 1 then [sgP kFalse] else if o = 2 then sgP kNot :: .b :: ps.getD 0 []
  else if o ≤ 6 then .s kOpen :: (ps.getD 0 [] ++ .b :: sgP (jsg o) :: .b :: (ps.getD 1 [] ++ [.s kShut]))
  else if o ≤ 8 then sgP (qsg o) :: .b :: namP x :: .s kDot :: .b :: ps.getD 0 []
  else (ts.getD 0 noT).2 ++ .b :: sgP (rsg o) :: .b :: ((ts.getD 1 noT).2 ++ if o = 15 then [.b, sgP kMod, .b, numP m] else [])
mutual
def pcF : Fm → List Pc | .mk o x m t a => fmPc o x m (pcTL t) (pcFL a)
def pcFL : List Fm → List (List Pc) | [] => [] | f :: r => pcF f :: pcFL r
end
def shT (t : Tm) : ByteArray := catP (pcT t)
def shF (f : Fm) : ByteArray := catP (pcF f)
/- numbers that fit -/
def nT (t : Tm) : Bool := decide (t.num ≤ 9223372036854775807)
def nF (f : Fm) : Bool := decide (f.mod ≤ 9223372036854775807)
/- what a well made node has -/
theorem well_tm {nm : ByteArray → Bool} {o n : Int} {x : ByteArray} {a : List Tm} (h : wellT nm (.mk o n x a) = true) :
    (o = 0 ∧ 0 ≤ n ∧ x = emp ∧ a = []) ∨ (o = 1 ∧ n = 0 ∧ nm x = true ∧ a = []) ∨ (o = 2 ∧ n = 0 ∧ x = emp ∧ ∃ t, a = [t]) ∨ ((o = 3 ∨ o = 4 ∨ o = 5) ∧ n = 0 ∧ x = emp ∧ ∃ t u, a = [t, u]) := by
  have hx : (x.toList == []) = true → x = emp := fun e => toList_inj (by rw [beq_iff_eq] at e; rw [e]; decide +kernel)
  have h1 : a.length = 1 → ∃ t, a = [t] := fun e => by
    cases a with
    | nil => cases e
    | cons t r => cases r with
      | nil => exact ⟨t, rfl⟩
      | cons _ _ => simp at e
  have h2 : a.length = 2 → ∃ t u, a = [t, u] := fun e => by
    cases a with
    | nil => cases e
    | cons t r => cases r with
      | nil => simp at e
      | cons u r => cases r with
        | nil => exact ⟨t, u, rfl⟩
        | cons _ _ => simp at e
  replace h : wT nm o n x a.length = true := h
  unfold wT at h
  split at h
  · simp only [Bool.and_eq_true, decide_eq_true_eq, List.length_eq_zero_iff] at h
    exact .inl ⟨‹_›, h.1.1, hx h.1.2, h.2⟩
  · split at h
    · simp only [Bool.and_eq_true, decide_eq_true_eq, List.length_eq_zero_iff] at h
      exact .inr (.inl ⟨‹_›, h.1.1, h.1.2, h.2⟩)
    · split at h
      · simp only [Bool.and_eq_true, decide_eq_true_eq] at h
        exact .inr (.inr (.inl ⟨‹_›, h.1.1, hx h.1.2, h1 h.2⟩))
      · split at h
        · simp only [Bool.and_eq_true, decide_eq_true_eq] at h
          exact .inr (.inr (.inr ⟨‹_›, h.1.1, hx h.1.2, h2 h.2⟩))
        · cases h
theorem all_one {P : Tm → Bool} {o n : Int} {x : ByteArray} {t : Tm} (h : Tm.all P (.mk o n x [t]) = true) : P (.mk o n x [t]) = true ∧ t.all P = true := by
  rw [Tm.all, Tm.allL, Tm.allL, Bool.and_eq_true, Bool.and_eq_true] at h
  exact ⟨h.1, h.2.1⟩
theorem all_two {P : Tm → Bool} {o n : Int} {x : ByteArray} {t u : Tm} (h : Tm.all P (.mk o n x [t, u]) = true) : P (.mk o n x [t, u]) = true ∧ t.all P = true ∧ u.all P = true := by
  rw [Tm.all, Tm.allL, Tm.allL, Tm.allL, Bool.and_eq_true, Bool.and_eq_true, Bool.and_eq_true] at h
  exact ⟨h.1, h.2.1, h.2.2.1⟩
theorem all_own {P : Tm → Bool} {o n : Int} {x : ByteArray} {a : List Tm} (h : Tm.all P (.mk o n x a) = true) : P (.mk o n x a) = true := by
  rw [Tm.all, Bool.and_eq_true] at h
  exact h.1
theorem pc_two {o n : Int} {x : ByteArray} {t u : Tm} (ho : o = 3 ∨ o = 4 ∨ o = 5) : pcT (.mk o n x [t, u]) = heldP o 0 (t.op, pcT t) ++ .b :: sgP (tsg o) :: .b :: heldP o 1 (u.op, pcT u) := by
  rw [pcT, pcTL, pcTL, pcTL, tmPc, if_neg (by omega), if_neg (by omega), if_neg (by omega)]
  rfl
theorem pc_neg {n : Int} {x : ByteArray} {t : Tm} : pcT (.mk 2 n x [t]) = .s kMinus :: heldP 2 0 (t.op, pcT t) := by
  rw [pcT, pcTL, pcTL, tmPc, if_neg (by omega), if_neg (by omega), if_pos rfl]
  rfl
theorem pc_num {n : Int} {x : ByteArray} {a : List Tm} : pcT (.mk 0 n x a) = [numP n] := by rw [pcT, tmPc, if_pos rfl]
theorem pc_nam {n : Int} {x : ByteArray} {a : List Tm} : pcT (.mk 1 n x a) = [namP x] := by rw [pcT, tmPc, if_neg (by omega), if_pos rfl]
theorem len_one {α : Type} {a : List α} (e : a.length = 1) : ∃ t, a = [t] := by
  cases a with
  | nil => cases e
  | cons t r => cases r with
    | nil => exact ⟨t, rfl⟩
    | cons _ _ => simp at e
theorem len_two {α : Type} {a : List α} (e : a.length = 2) : ∃ t u, a = [t, u] := by
  cases a with
  | nil => cases e
  | cons t r => cases r with
    | nil => simp at e
    | cons u r => cases r with
      | nil => exact ⟨t, u, rfl⟩
      | cons _ _ => simp at e
/-- what a well made formula's node has -/
inductive Shp (nm : ByteArray → Bool) : Int → ByteArray → Int → List Tm → List Fm → Prop
  | leaf {o} : o = 0 ∨ o = 1 → Shp nm o emp 0 [] []
  | not {f} : Shp nm 2 emp 0 [] [f]
  | pair {o f g} : 3 ≤ o → o ≤ 6 → Shp nm o emp 0 [] [f, g]
  | qu {o x f} : o = 7 ∨ o = 8 → nm x = true → Shp nm o x 0 [] [f]
  | rel {o t u} : 9 ≤ o → o ≤ 14 → Shp nm o emp 0 [t, u] []
  | cong {m t u} : 1 ≤ m → Shp nm 15 emp m [t, u] []
theorem well_fm {nm : ByteArray → Bool} {o m : Int} {x : ByteArray} {t : List Tm} {a : List Fm} (h : wellF nm (.mk o x m t a) = true) : Shp nm o x m t a := by
  have hx : (x.toList == []) = true → x = emp := fun e => toList_inj (by rw [beq_iff_eq] at e; rw [e]; decide +kernel)
  replace h : wF nm o x m t.length a.length = true := h
  unfold wF at h
  split at h
  · rename_i ho
    simp only [Bool.and_eq_true, decide_eq_true_eq, List.length_eq_zero_iff] at h
    obtain ⟨⟨⟨h1, rfl⟩, rfl⟩, h2⟩ := h
    obtain ⟨f, rfl⟩ := len_one h2
    exact .qu ho h1
  · split at h
    · rename_i _ ho
      subst ho
      simp only [Bool.and_eq_true, decide_eq_true_eq, List.length_eq_zero_iff] at h
      obtain ⟨⟨⟨h1, h2⟩, h3⟩, rfl⟩ := h
      obtain ⟨t, u, rfl⟩ := len_two h3
      rw [hx h1]
      exact .cong h2
    · split at h
      · rename_i n1 n2 ho
        simp only [Bool.and_eq_true, decide_eq_true_eq] at h
        obtain ⟨⟨⟨h1, rfl⟩, h3⟩, h4⟩ := h
        rw [hx h1]
        by_cases h9 : 9 ≤ o
        · rw [if_pos h9] at h3
          rw [if_neg (by omega), if_neg (by omega), List.length_eq_zero_iff] at h4
          subst h4
          obtain ⟨t, u, rfl⟩ := len_two h3
          exact .rel h9 ho.2
        · rw [if_neg h9, List.length_eq_zero_iff] at h3
          subst h3
          by_cases e2 : o = 2
          · subst e2
            rw [if_pos rfl] at h4
            obtain ⟨f, rfl⟩ := len_one h4
            exact .not
          · rw [if_neg e2] at h4
            by_cases e3 : 3 ≤ o ∧ o ≤ 6
            · rw [if_pos e3] at h4
              obtain ⟨f, g, rfl⟩ := len_two h4
              exact .pair e3.1 e3.2
            · rw [if_neg e3, List.length_eq_zero_iff] at h4
              subst h4
              exact .leaf (by omega)
      · cases h
theorem fll_own {P : Tm → Bool} {Q : Fm → Bool} {o m : Int} {x : ByteArray} {t : List Tm} {a : List Fm} (h : Fm.all P Q (.mk o x m t a) = true) : Q (.mk o x m t a) = true ∧ Tm.allL P t = true ∧ Fm.allL P Q a = true := by
  rw [Fm.all, Bool.and_eq_true, Bool.and_eq_true] at h
  exact ⟨h.1.1, h.1.2, h.2⟩
theorem fl_one {P : Tm → Bool} {Q : Fm → Bool} {f : Fm} (h : Fm.allL P Q [f] = true) : f.all P Q = true := by
  rw [Fm.allL, Bool.and_eq_true] at h; exact h.1
theorem fl_two {P : Tm → Bool} {Q : Fm → Bool} {f g : Fm} (h : Fm.allL P Q [f, g] = true) : f.all P Q = true ∧ g.all P Q = true := by
  rw [Fm.allL, Fm.allL, Bool.and_eq_true, Bool.and_eq_true] at h; exact ⟨h.1, h.2.1⟩
theorem tl_two {P : Tm → Bool} {f g : Tm} (h : Tm.allL P [f, g] = true) : f.all P = true ∧ g.all P = true := by
  rw [Tm.allL, Tm.allL, Bool.and_eq_true, Bool.and_eq_true] at h; exact ⟨h.1, h.2.1⟩
theorem fc_tru {x : ByteArray} {m : Int} {t : List Tm} {a : List Fm} : pcF (.mk 0 x m t a) = [sgP kTrue] := by rw [pcF, fmPc, if_pos rfl]
theorem fc_fls {x : ByteArray} {m : Int} {t : List Tm} {a : List Fm} : pcF (.mk 1 x m t a) = [sgP kFalse] := by rw [pcF, fmPc, if_neg (by omega), if_pos rfl]
theorem fc_not {x : ByteArray} {m : Int} {t : List Tm} {f : Fm} : pcF (.mk 2 x m t [f]) = sgP kNot :: .b :: pcF f := by
  rw [pcF, pcFL, pcFL, fmPc, if_neg (by omega), if_neg (by omega), if_pos rfl]; rfl
theorem fc_pair {o : Int} {x : ByteArray} {m : Int} {t : List Tm} {f g : Fm} (h1 : 3 ≤ o) (h2 : o ≤ 6) : pcF (.mk o x m t [f, g]) = .s kOpen :: (pcF f ++ .b :: sgP (jsg o) :: .b :: (pcF g ++ [.s kShut])) := by
  rw [pcF, pcFL, pcFL, pcFL, fmPc, if_neg (by omega), if_neg (by omega), if_neg (by omega), if_pos h2]; rfl
theorem fc_qu {o : Int} {x : ByteArray} {m : Int} {t : List Tm} {f : Fm} (h : o = 7 ∨ o = 8) : pcF (.mk o x m t [f]) = sgP (qsg o) :: .b :: namP x :: .s kDot :: .b :: pcF f := by
  rw [pcF, pcFL, pcFL, fmPc, if_neg (by omega), if_neg (by omega), if_neg (by omega), if_neg (by omega), if_pos (by omega)]; rfl
theorem fc_rel {o : Int} {x : ByteArray} {m : Int} {t u : Tm} {a : List Fm} (h1 : 9 ≤ o) (h2 : o ≤ 14) : pcF (.mk o x m [t, u] a) = pcT t ++ .b :: sgP (rsg o) :: .b :: pcT u := by
  rw [pcF, pcTL, pcTL, pcTL, fmPc, if_neg (by omega), if_neg (by omega), if_neg (by omega), if_neg (by omega), if_neg (by omega), if_neg (by omega)]
  show pcT t ++ .b :: sgP (rsg o) :: .b :: (pcT u ++ []) = _
  rw [List.append_nil]
theorem fc_cong {x : ByteArray} {m : Int} {t u : Tm} {a : List Fm} : pcF (.mk 15 x m [t, u] a) = pcT t ++ .b :: sgP (rsg 15) :: .b :: (pcT u ++ .b :: sgP kMod :: .b :: [numP m]) := by
  rw [pcF, pcTL, pcTL, pcTL, fmPc, if_neg (by omega), if_neg (by omega), if_neg (by omega), if_neg (by omega), if_neg (by omega), if_pos rfl]; rfl
end Go.Proofs.YtncgmnijgdfenaaDoor.Gl
