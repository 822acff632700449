/- The texts of ParseBinds: what each is. -/
import Derived.Test.YtabfhdmcljdjhaaDoorPcZ
namespace Go.Proofs.YtabfhdmcljdjhaaDoor.Gl
open Go.RowKit
set_option linter.unusedVariables false
set_option linter.unusedSimpArgs false

theorem wh_in {W : List Wd} {n m : Nat} (hnm : n < m) (hm : m < 4) {f g h : Fm} {q1 q2 q3 : Nat} (u1 : PF W .un 0 (.ok (.f f) q1)) (s1 : IsS W q1 (sgOf n)) (u2 : PF W .un (q1 + 1) (.ok (.f g) q2)) (s2 : IsS W q2 (sgOf m)) (u3 : PF W .un (q2 + 1) (.ok (.f h) q3)) (he : W.length = q3) : Whole W (fPair (opOf n) f (fPair (opOf m) g h)) := by
  unfold Whole
  rw [he]
  have a1 := lev_un (n := n + 1) (by omega) u1 (noj_above (by omega) s1)
  have b1 := lev_un (n := m + 1) (by omega) u2 (noj_above hm s2)
  have b2 := lev_un (n := m + 1) (by omega) u3 (noj_end (by omega))
  have b3 := lev_two hm b1 s2 b2 (fun k => by have := k.lt; omega)
  have b4 := lev_up (n := n + 1) (by omega) (by omega) b3 (noj_end (by omega))
  exact lev_up (Nat.zero_le _) (by omega) (lev_two (by omega) a1 s1 b4 (fun k => by have := k.lt; omega)) (noj_end (by omega))
theorem wh_out {W : List Wd} {n m : Nat} (hnm : n < m) (hm : m < 4) {f g h : Fm} {q1 q2 q3 : Nat} (u1 : PF W .un 0 (.ok (.f f) q1)) (s1 : IsS W q1 (sgOf m)) (u2 : PF W .un (q1 + 1) (.ok (.f g) q2)) (s2 : IsS W q2 (sgOf n)) (u3 : PF W .un (q2 + 1) (.ok (.f h) q3)) (he : W.length = q3) : Whole W (fPair (opOf n) (fPair (opOf m) f g) h) := by
  unfold Whole
  rw [he]
  have hj := noj_above (by omega) s2
  have a1 := lev_un (n := m + 1) (by omega) u1 (noj_above hm s1)
  have a2 := lev_un (n := m + 1) (by omega) u2 (hj.mono (by omega))
  have a3 := lev_two hm a1 s1 a2 (hj m (by omega) hm)
  have a4 := lev_up (n := n + 1) (by omega) (by omega) a3 hj
  have b := lev_un (n := n + 1) (by omega) u3 (noj_end (by omega))
  exact lev_up (Nat.zero_le _) (by omega) (lev_two (by omega) a4 s2 b (fun k => by have := k.lt; omega)) (noj_end (by omega))
theorem wh_same {W : List Wd} {n : Nat} (hn : n < 4) {f g h : Fm} {q1 q2 q3 : Nat} (u1 : PF W .un 0 (.ok (.f f) q1)) (s1 : IsS W q1 (sgOf n)) (u2 : PF W .un (q1 + 1) (.ok (.f g) q2)) (s2 : IsS W q2 (sgOf n)) (u3 : PF W .un (q2 + 1) (.ok (.f h) q3)) (he : W.length = q3) : Whole W (if n = 1 then fPair (opOf n) f (fPair (opOf n) g h) else fPair (opOf n) (fPair (opOf n) f g) h) := by
  unfold Whole
  rw [he]
  have a1 := lev_un (n := n + 1) (by omega) u1 (noj_above hn s1)
  have a2 := lev_un (n := n + 1) (by omega) u2 (noj_above hn s2)
  have a3 := lev_un (n := n + 1) (by omega) u3 (noj_end (by omega))
  exact lev_up (Nat.zero_le _) (by omega) (lev_three hn a1 s1 a2 s2 a3 (fun k => by have := k.lt; omega)) (noj_end (by omega))
/- three brackets in a row -/
structure Tri (s t r : ByteArray) (a b c : List Wd) (f g h : Fm) : Prop where
  ls : Lx s 0 a none
  lt : Lx t 0 b none
  lr : Lx r 0 c none
  ws : Whole a f
  wt : Whole b g
  wr : Whole c h
abbrev inB (s : ByteArray) : ByteArray := kOpen ++ s ++ kShut
theorem row_in (s : ByteArray) : Row (inB s) 0 [kOpen, s, kShut] (inB s).size := Row.app (Row.app (Row.self _) (Row.self _)) (Row.self _)
theorem tri_facts {s t r : ByteArray} {a b c : List Wd} {f g h : Fm} (T : Tri s t r a b c f g h) (J1 J2 : ByteArray) : ∃ q1 q2 q3, PF (wordsOf 0 [.br s a, .w 2 J1, .br t b, .w 2 J2, .br r c]) .un 0 (.ok (.f f) q1) ∧ IsS (wordsOf 0 [.br s a, .w 2 J1, .br t b, .w 2 J2, .br r c]) q1 J1 ∧ PF (wordsOf 0 [.br s a, .w 2 J1, .br t b, .w 2 J2, .br r c]) .un (q1 + 1) (.ok (.f g) q2) ∧ IsS (wordsOf 0 [.br s a, .w 2 J1, .br t b, .w 2 J2, .br r c]) q2 J2 ∧ PF (wordsOf 0 [.br s a, .w 2 J1, .br t b, .w 2 J2, .br r c]) .un (q2 + 1) (.ok (.f h) q3) ∧ (wordsOf 0 [.br s a, .w 2 J1, .br t b, .w 2 J2, .br r c]).length = q3 := by
  have u1 := pt_br (s := s) [] [.w 2 J1, .br t b, .w 2 J2, .br r c] T.ws
  have s1 := pt_s J1 [.br s a] [.br t b, .w 2 J2, .br r c]
  have u2 := pt_br (s := t) [.br s a, .w 2 J1] [.w 2 J2, .br r c] T.wt
  have s2 := pt_s J2 [.br s a, .w 2 J1, .br t b] [.br r c]
  have u3 := pt_br (s := r) [.br s a, .w 2 J1, .br t b, .w 2 J2] [] T.wr
  simp only [nW, Pt.cnt, Nat.zero_add, List.nil_append, List.cons_append, Nat.add_zero] at u1 s1 u2 s2 u3
  refine ⟨a.length + 2, a.length + 2 + 1 + (b.length + 2), a.length + 2 + 1 + (b.length + 2) + 1 + (c.length + 2), u1, s1, u2, ?_, ?_, ?_⟩
  · rw [show a.length + 2 + 1 + (b.length + 2) = a.length + 2 + (1 + (b.length + 2)) by omega]; exact s2
  · rw [show a.length + 2 + (1 + (b.length + 2 + 1)) = a.length + 2 + 1 + (b.length + 2) + 1 by omega] at u3; exact u3
  · rw [words_len]; simp [nW, Pt.cnt]; omega
theorem tri_reads {s t r : ByteArray} {a b c : List Wd} {f g h : Fm} (T : Tri s t r a b c f g h) {J1 J2 : ByteArray} (h1 : 0 < J1.size) (h2 : 0 < J2.size) (k1 : tok J1 0 = .word 2 J1 0 J1.size) (k2 : tok J2 0 = .word 2 J2 0 J2.size) {F : Fm} (hw : Whole (wordsOf 0 [.br s a, .w 2 J1, .br t b, .w 2 J2, .br r c]) F) : Reads (inB s ++ J1 ++ inB t ++ J2 ++ inB r) F := by
  have hu := Row.app (Row.app (Row.app (Row.app (row_in s) (Row.self J1)) (row_in t)) (Row.self J2)) (row_in r)
  exact reads_of (l := [.br s a, .w 2 J1, .br t b, .w 2 J2, .br r c]) ⟨T.ls, h1, k1, ⟨_, _, rfl, sep_open, fun _ _ e => by cases e⟩, T.lt, h2, k2, ⟨_, _, rfl, sep_open, fun _ _ e => by cases e⟩, T.lr, trivial⟩ hu hw
section
variable {s t r : ByteArray} {a b c : List Wd} {f g h : Fm} (T : Tri s t r a b c f g h)
include T
theorem bi_1 : Reads (inB s ++ kOr ++ inB t ++ kAnd ++ inB r) (fPair 4 f (fPair 3 g h)) := by
  obtain ⟨_, _, _, u1, s1, u2, s2, u3, he⟩ := tri_facts T kOr kAnd
  exact tri_reads T (by decide) (by decide) tk_or tk_and (wh_in (n := 2) (m := 3) (by decide) (by decide) u1 s1 u2 s2 u3 he)
theorem bi_2 : Reads (inB s ++ kAnd ++ inB t ++ kOr ++ inB r) (fPair 4 (fPair 3 f g) h) := by
  obtain ⟨_, _, _, u1, s1, u2, s2, u3, he⟩ := tri_facts T kAnd kOr
  exact tri_reads T (by decide) (by decide) tk_and tk_or (wh_out (n := 2) (m := 3) (by decide) (by decide) u1 s1 u2 s2 u3 he)
theorem bi_3 : Reads (inB s ++ kTo ++ inB t ++ kOr ++ inB r) (fPair 5 f (fPair 4 g h)) := by
  obtain ⟨_, _, _, u1, s1, u2, s2, u3, he⟩ := tri_facts T kTo kOr
  exact tri_reads T (by decide) (by decide) tk_to tk_or (wh_in (n := 1) (m := 2) (by decide) (by decide) u1 s1 u2 s2 u3 he)
theorem bi_4 : Reads (inB s ++ kIff ++ inB t ++ kTo ++ inB r) (fPair 6 f (fPair 5 g h)) := by
  obtain ⟨_, _, _, u1, s1, u2, s2, u3, he⟩ := tri_facts T kIff kTo
  exact tri_reads T (by decide) (by decide) tk_iff tk_to (wh_in (n := 0) (m := 1) (by decide) (by decide) u1 s1 u2 s2 u3 he)
theorem bi_5 : Reads (inB s ++ kTo ++ inB t ++ kTo ++ inB r) (fPair 5 f (fPair 5 g h)) := by
  obtain ⟨_, _, _, u1, s1, u2, s2, u3, he⟩ := tri_facts T kTo kTo
  exact tri_reads T (by decide) (by decide) tk_to tk_to (wh_same (n := 1) (by decide) u1 s1 u2 s2 u3 he)
theorem bi_6 : Reads (inB s ++ kAnd ++ inB t ++ kAnd ++ inB r) (fPair 3 (fPair 3 f g) h) := by
  obtain ⟨_, _, _, u1, s1, u2, s2, u3, he⟩ := tri_facts T kAnd kAnd
  exact tri_reads T (by decide) (by decide) tk_and tk_and (wh_same (n := 3) (by decide) u1 s1 u2 s2 u3 he)
theorem bi_7 : Reads (inB s ++ kIff ++ inB t ++ kIff ++ inB r) (fPair 6 (fPair 6 f g) h) := by
  obtain ⟨_, _, _, u1, s1, u2, s2, u3, he⟩ := tri_facts T kIff kIff
  exact tri_reads T (by decide) (by decide) tk_iff tk_iff (wh_same (n := 0) (by decide) u1 s1 u2 s2 u3 he)
theorem bi_8 : Reads (kNot ++ inB s ++ kAnd ++ inB t) (fPair 3 (fNot f) g) := by
  have s0 := pt_s kNot [] [.br s a, .w 2 kAnd, .br t b]
  have u1 := pt_br (s := s) [.w 2 kNot] [.w 2 kAnd, .br t b] T.ws
  have s1 := pt_s kAnd [.w 2 kNot, .br s a] [.br t b]
  have u2 := pt_br (s := t) [.w 2 kNot, .br s a, .w 2 kAnd] [] T.wt
  simp only [nW, Pt.cnt, Nat.zero_add, List.nil_append, List.cons_append, Nat.add_zero] at s0 u1 s1 u2
  rw [show 1 + (a.length + 2 + 1) = 1 + (a.length + 2) + 1 by omega] at u2
  have hw := wh_two (n := 3) (by decide) (PF.not s0 u1) s1 u2 (by rw [words_len]; simp [nW, Pt.cnt]; omega)
  have hu := Row.app (Row.app (Row.app (Row.self kNot) (row_in s)) (Row.self kAnd)) (row_in t)
  exact reads_of (l := [.w 2 kNot, .br s a, .w 2 kAnd, .br t b]) ⟨by decide, tk_not, ⟨_, _, rfl, sep_open, fun _ _ e => by cases e⟩, T.ls, by decide, tk_and, ⟨_, _, rfl, sep_open, fun _ _ e => by cases e⟩, T.lt, trivial⟩ hu hw
theorem bi_9 : Reads ((⟨#[101, 120, 32, 120, 46]⟩ : ByteArray) ++ inB s ++ kOr ++ inB t) (fPair 4 (fQ 7 kX f) g) := by
  have s0 := pt_s kEx [] [.b, .w 0 kX, .w 2 kDot, .br s a, .w 2 kOr, .br t b]
  have n1 := pt_n kX [.w 2 kEx, .b] [.w 2 kDot, .br s a, .w 2 kOr, .br t b]
  have s3 := pt_s kDot [.w 2 kEx, .b, .w 0 kX] [.br s a, .w 2 kOr, .br t b]
  have u1 := pt_br (s := s) [.w 2 kEx, .b, .w 0 kX, .w 2 kDot] [.w 2 kOr, .br t b] T.ws
  have s1 := pt_s kOr [.w 2 kEx, .b, .w 0 kX, .w 2 kDot, .br s a] [.br t b]
  have u2 := pt_br (s := t) [.w 2 kEx, .b, .w 0 kX, .w 2 kDot, .br s a, .w 2 kOr] [] T.wt
  have s3' : IsS (wordsOf 0 [.w 2 kEx, .b, .w 0 kX, .w 2 kDot, .br s a, .w 2 kOr, .br t b]) 2 kDot := s3
  have e1 : nW [.w 2 kEx, .b, .w 0 kX, .w 2 kDot, .br s a] = 3 + (a.length + 2) := by simp [nW, Pt.cnt]; omega
  have e2 : nW [.w 2 kEx, .b, .w 0 kX, .w 2 kDot, .br s a, .w 2 kOr] = 3 + (a.length + 2) + 1 := by simp [nW, Pt.cnt]; omega
  have e3 : nW [.w 2 kEx, .b, .w 0 kX, .w 2 kDot] = 3 := rfl
  rw [e1] at s1
  rw [e2] at u2
  rw [e3] at u1
  have hw := wh_two (n := 2) (by decide) (PF.qu (o := 7) (by simp) s0 (.last n1 (s3'.ne (by decide))) s3' u1) s1 u2 (by rw [words_len]; simp [nW, Pt.cnt]; omega)
  have hr : Row (kEx ++ blk ++ kX ++ kDot) 0 [kEx, blk, kX, kDot] (kEx ++ blk ++ kX ++ kDot).size := Row.app (Row.app (Row.app (Row.self _) (Row.self _)) (Row.self _)) (Row.self _)
  have hl : Row (⟨#[101, 120, 32, 120, 46]⟩ : ByteArray) 0 [kEx, blk, kX, kDot] (⟨#[101, 120, 32, 120, 46]⟩ : ByteArray).size := Row.of_eq (ba_eq (by decide +kernel)) hr
  have hu := Row.app (Row.app (Row.app hl (row_in s)) (Row.self kOr)) (row_in t)
  exact reads_of (l := [.w 2 kEx, .b, .w 0 kX, .w 2 kDot, .br s a, .w 2 kOr, .br t b]) ⟨by decide, tk_ex, ⟨_, _, rfl, sep_blank, fun _ _ e => by cases e⟩, by decide, tk_x, ⟨_, _, rfl, sep_do, fun _ _ e => by cases e; decide⟩, by decide, tk_dot, ⟨_, _, rfl, sep_open, fun _ _ e => by cases e⟩, T.ls, by decide, tk_or, ⟨_, _, rfl, sep_open, fun _ _ e => by cases e⟩, T.lt, trivial⟩ hu hw
end
end Go.Proofs.YtabfhdmcljdjhaaDoor.Gl
