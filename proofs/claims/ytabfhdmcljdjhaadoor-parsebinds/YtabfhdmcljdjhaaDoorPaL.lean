/- What rows of parts are as formulas: plain mathematics. -/
import Derived.Test.YtabfhdmcljdjhaaDoorPaK
namespace Go.Proofs.YtabfhdmcljdjhaaDoor.Gl
set_option linter.unusedVariables false
set_option linter.unusedSimpArgs false

def Pt.cnt : Pt → Nat
  | .b => 0
  | .w _ _ => 1
  | .br _ a => a.length + 2
def nW : List Pt → Nat
  | [] => 0
  | p :: l => p.cnt + nW l
theorem words_len : ∀ (l : List Pt) (d : Nat), (wordsOf d l).length = nW l := by
  intro l
  induction l with
  | nil => intro d; rfl
  | cons p l ih =>
    intro d
    rw [wordsOf, List.length_append, ih, nW]
    congr 1
    cases p <;> simp [Pt.words, Pt.cnt]
def lenL : List Pt → Nat
  | [] => 0
  | p :: l => p.len + lenL l
theorem words_app : ∀ (l m : List Pt) (d : Nat), wordsOf d (l ++ m) = wordsOf d l ++ wordsOf (d + lenL l) m := by
  intro l
  induction l with
  | nil => intro m d; simp [wordsOf, lenL]
  | cons p l ih => intro m d; simp only [List.cons_append, wordsOf, lenL, ih, List.append_assoc, Nat.add_assoc]
theorem pt_br {s : ByteArray} {a : List Wd} {f : Fm} (l1 l2 : List Pt) (h : Whole a f) : PF (wordsOf 0 (l1 ++ .br s a :: l2)) .un (nW l1) (.ok (.f f) (nW l1 + (a.length + 2))) := by
  have u := un_br (pre := wordsOf 0 l1) (post := wordsOf (0 + lenL l1 + (Pt.br s a).len) l2) (k := 0 + lenL l1 + 1) (wo := ⟨2, kOpen, 0, 0 + lenL l1⟩) (wc := ⟨2, kShut, 0, 0 + lenL l1 + 1 + s.size⟩) ⟨rfl, rfl⟩ ⟨rfl, rfl⟩ h
  rw [words_len] at u
  have e : wordsOf 0 (l1 ++ .br s a :: l2) = wordsOf 0 l1 ++ (⟨2, kOpen, 0, 0 + lenL l1⟩ : Wd) :: (a.map (Wd.move (0 + lenL l1 + 1)) ++ (⟨2, kShut, 0, 0 + lenL l1 + 1 + s.size⟩ : Wd) :: wordsOf (0 + lenL l1 + (Pt.br s a).len) l2) := by
    rw [words_app, wordsOf]
    simp [Pt.words]
  rw [e]
  exact u
theorem pt_at (k : Nat) (x : ByteArray) (l1 l2 : List Pt) : ∃ w : Wd, (wordsOf 0 (l1 ++ .w k x :: l2))[nW l1]? = some w ∧ w.kind = k ∧ w.text = x := by
  rw [words_app, wordsOf]
  have := words_len l1 0
  rw [List.getElem?_append_right (by omega), this, Nat.sub_self]
  exact ⟨⟨k, x, 0, 0 + lenL l1⟩, rfl, rfl, rfl⟩
theorem pt_s (x : ByteArray) (l1 l2 : List Pt) : IsS (wordsOf 0 (l1 ++ .w 2 x :: l2)) (nW l1) x := pt_at 2 x l1 l2
theorem pt_n (x : ByteArray) (l1 l2 : List Pt) : IsN (wordsOf 0 (l1 ++ .w 0 x :: l2)) (nW l1) x := pt_at 0 x l1 l2
/- whole formulas out of parts: over any words -/
theorem wh_one {W : List Wd} {f : Fm} {e : Nat} (u : PF W .un 0 (.ok (.f f) e)) (he : W.length = e) : Whole W f := by
  unfold Whole
  rw [he]
  exact lev_un (by omega) u (noj_end (by omega))
theorem wh_two {W : List Wd} {n : Nat} (hn : n < 4) {f g : Fm} {q e : Nat} (u1 : PF W .un 0 (.ok (.f f) q)) (s : IsS W q (sgOf n)) (u2 : PF W .un (q + 1) (.ok (.f g) e)) (he : W.length = e) : Whole W (fPair (opOf n) f g) := by
  unfold Whole
  rw [he]
  have l1 : PF W (.lev (n + 1)) 0 (.ok (.f f) q) := lev_un (by omega) u1 (noj_above hn s)
  have l2 : PF W (.lev (n + 1)) (q + 1) (.ok (.f g) e) := lev_un (by omega) u2 (noj_end (by omega))
  exact lev_up (Nat.zero_le _) (by omega) (lev_two hn l1 s l2 (noS_of (by omega))) (noj_end (by omega))
where noS_of {W : List Wd} {p : Nat} {x : ByteArray} (h : W.length ≤ p) : ¬ IsS W p x := fun k => by have := k.lt; omega
/- of each text of the laws -/
theorem two_row {n : Nat} (hn : n < 4) {s t : ByteArray} {a b : List Wd} {f g : Fm} (ha : Whole a f) (hb : Whole b g) (bl : List Pt) (hbl : bl = [] ∨ bl = [.b]) : Whole (wordsOf 0 (.br s a :: (bl ++ .w 2 (sgOf n) :: (bl ++ [.br t b])))) (fPair (opOf n) f g) := by
  have hz : nW bl = 0 := by rcases hbl with rfl | rfl <;> rfl
  have happ : ∀ l m : List Pt, nW (l ++ m) = nW l + nW m := by
    intro l m
    induction l with
    | nil => simp [nW]
    | cons p l ih => simp [nW, ih]; omega
  have u1 := pt_br (s := s) [] (bl ++ .w 2 (sgOf n) :: (bl ++ [.br t b])) ha
  have s1 := pt_s (sgOf n) (.br s a :: bl) (bl ++ [.br t b])
  have u2 := pt_br (s := t) (.br s a :: (bl ++ .w 2 (sgOf n) :: bl)) [] hb
  have e1 : nW (.br s a :: bl) = a.length + 2 := by simp [nW, Pt.cnt, hz]
  have e2 : nW (.br s a :: (bl ++ .w 2 (sgOf n) :: bl)) = a.length + 2 + 1 := by simp [nW, Pt.cnt, hz, happ]
  rw [e1] at s1
  rw [e2] at u2
  have l1 : (.br s a :: bl) ++ Pt.w 2 (sgOf n) :: (bl ++ [.br t b]) = .br s a :: (bl ++ .w 2 (sgOf n) :: (bl ++ [.br t b])) := by simp
  have l2 : (.br s a :: (bl ++ Pt.w 2 (sgOf n) :: bl)) ++ [.br t b] = .br s a :: (bl ++ .w 2 (sgOf n) :: (bl ++ [.br t b])) := by simp
  rw [l1] at s1
  rw [l2] at u2
  simp only [nW, Nat.zero_add, List.nil_append] at u1
  refine wh_two hn u1 s1 u2 ?_
  rw [words_len]
  simp [nW, Pt.cnt, hz, happ] <;> omega
theorem not_row {s : ByteArray} {a : List Wd} {f : Fm} (ha : Whole a f) : Whole (wordsOf 0 [.w 2 kNot, .b, .br s a]) (fNot f) := by
  have s1 := pt_s kNot [] [.b, .br s a]
  have u2 := pt_br (s := s) [.w 2 kNot, .b] [] ha
  have e2 : nW [.w 2 kNot, .b] = 0 + 1 := rfl
  rw [e2] at u2
  refine wh_one (PF.not s1 u2) ?_
  rw [words_len]
  simp [nW, Pt.cnt] <;> omega
theorem ex_row {s : ByteArray} {a : List Wd} {f : Fm} (ha : Whole a f) : Whole (wordsOf 0 [.w 2 kEx, .b, .w 0 kX, .w 2 kComma, .b, .w 0 kY, .w 2 kDot, .b, .br s a]) (fQ 7 kX (fQ 7 kY f)) := by
  have s1 := pt_s kEx [] [.b, .w 0 kX, .w 2 kComma, .b, .w 0 kY, .w 2 kDot, .b, .br s a]
  have n1 := pt_n kX [.w 2 kEx, .b] [.w 2 kComma, .b, .w 0 kY, .w 2 kDot, .b, .br s a]
  have s2 := pt_s kComma [.w 2 kEx, .b, .w 0 kX] [.b, .w 0 kY, .w 2 kDot, .b, .br s a]
  have n2 := pt_n kY [.w 2 kEx, .b, .w 0 kX, .w 2 kComma, .b] [.w 2 kDot, .b, .br s a]
  have s3 := pt_s kDot [.w 2 kEx, .b, .w 0 kX, .w 2 kComma, .b, .w 0 kY] [.b, .br s a]
  have u2 := pt_br (s := s) [.w 2 kEx, .b, .w 0 kX, .w 2 kComma, .b, .w 0 kY, .w 2 kDot, .b] [] ha
  have s3' : IsS (wordsOf 0 [.w 2 kEx, .b, .w 0 kX, .w 2 kComma, .b, .w 0 kY, .w 2 kDot, .b, .br s a]) 4 kDot := s3
  refine wh_one (PF.qu (o := 7) (by simp) s1 (.more n1 s2 (.last n2 (s3'.ne (by decide)))) s3' u2) ?_
  rw [words_len]
  simp [nW, Pt.cnt] <;> omega
theorem br_row {s : ByteArray} {a : List Wd} {f : Fm} (ha : Whole a f) : Whole (wordsOf 0 [.br s a]) f := by
  have u := pt_br (s := s) [] [] ha
  simp only [nW, Nat.zero_add, List.nil_append] at u
  refine wh_one u ?_
  rw [words_len]
  simp [nW, Pt.cnt]
end Go.Proofs.YtabfhdmcljdjhaaDoor.Gl
