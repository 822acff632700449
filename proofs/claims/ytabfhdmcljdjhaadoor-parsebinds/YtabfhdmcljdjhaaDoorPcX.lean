/- The texts of ParseBrackets: what each is. -/
import Derived.Test.YtabfhdmcljdjhaaDoorPcW
import Derived.Test.YtabfhdmcljdjhaaDoorPaL
namespace Go.Proofs.YtabfhdmcljdjhaaDoor.Gl
open Go.RowKit
set_option linter.unusedVariables false
set_option linter.unusedSimpArgs false

/-- u is read as T, or is too great -/
def Reads (u : ByteArray) (T : Fm) : Prop := ∃ o c, An u o c 0 0 ∧ ((c = 0 ∧ o = some T ∧ chk nmB T = 0) ∨ c = 70 ∨ c = 73 ∨ c = 72)
theorem reads_of {u : ByteArray} {l : List Pt} {T : Fm} (hr : Rt l) (hu : Row u 0 (l.flatMap Pt.parts) u.size) (hw : Whole (wordsOf 0 l) T) : Reads u T := by
  by_cases h : 4096 < u.size
  · exact ⟨_, _, .long h, .inr (.inl rfl)⟩
  · have hl := row_words hr hu
    have hf : Fin6 (wordsOf 0 l) (.ok T _) := .ok hw
    by_cases h0 : chk nmB T = 0
    · exact ⟨_, _, .ok (by omega) hl hf h0, .inl ⟨rfl, rfl, h0⟩⟩
    · refine ⟨_, _, .many (by omega) hl hf h0, .inr (.inr ?_)⟩
      have := made_three (by omega) hl hf
      omega
theorem ba_eq {x y : ByteArray} (h : x.toList = y.toList) : x = y := toList_inj h
theorem sep_bt {x : ByteArray} {c : Nat} (h : Gl.bt x 0 = c) (hc : Sep c) : Sep (Gl.bt x 0) := h ▸ hc
theorem sep_com : Sep (Gl.bt kComma 0) := sep_bt (by decide +kernel) sep_comma
theorem sep_do : Sep (Gl.bt kDot 0) := sep_bt (by decide +kernel) sep_dot
theorem rt_two {n : Nat} {s t : ByteArray} {a b : List Wd} (bl : List Pt) (hbl : bl = [] ∨ bl = [.b]) (hs : Lx s 0 a none) (ht : Lx t 0 b none) (h0 : 0 < (sgOf n).size) (hk : tok (sgOf n) 0 = .word 2 (sgOf n) 0 (sgOf n).size) : Rt (.br s a :: (bl ++ .w 2 (sgOf n) :: (bl ++ [.br t b]))) := by
  rcases hbl with rfl | rfl
  · exact ⟨hs, h0, hk, ⟨_, _, rfl, sep_open, fun _ _ e => by cases e⟩, ht, trivial⟩
  · exact ⟨hs, h0, hk, ⟨_, _, rfl, sep_blank, fun _ _ e => by cases e⟩, ht, trivial⟩
/-- what two brackets with a joint between are -/
theorem reads_two {n : Nat} (hn : n < 4) {s t u M : ByteArray} {a b : List Wd} {f g : Fm} (bl : List Pt) (hbl : bl = [] ∨ bl = [.b]) (hs : Lx s 0 a none) (ht : Lx t 0 b none) (hk : tok (sgOf n) 0 = .word 2 (sgOf n) 0 (sgOf n).size) (h0 : 0 < (sgOf n).size) (ha : Whole a f) (hb : Whole b g)
    (hu : Row u 0 ((Pt.br s a :: (bl ++ .w 2 (sgOf n) :: (bl ++ [.br t b]))).flatMap Pt.parts) u.size) : Reads u (fPair (opOf n) f g) := reads_of (rt_two bl hbl hs ht h0 hk) hu (two_row hn ha hb bl hbl)
abbrev mAnd : ByteArray := ⟨#[41, 32, 97, 110, 100, 32, 40]⟩
abbrev mOr : ByteArray := ⟨#[41, 32, 111, 114, 32, 40]⟩
abbrev mTo : ByteArray := ⟨#[41, 32, 45, 62, 32, 40]⟩
abbrev mIff : ByteArray := ⟨#[41, 60, 45, 62, 40]⟩
theorem row_mid {M s t : ByteArray} {l : List ByteArray} (h : Row M 0 l M.size) : Row (kOpen ++ s ++ M ++ t ++ kShut) 0 ([kOpen] ++ [s] ++ l ++ [t] ++ [kShut]) (kOpen ++ s ++ M ++ t ++ kShut).size := Row.app (Row.app (Row.app (Row.app (Row.self _) (Row.self _)) h) (Row.self _)) (Row.self _)
theorem row_spaced (J : ByteArray) : Row (kShut ++ blk ++ J ++ blk ++ kOpen) 0 [kShut, blk, J, blk, kOpen] (kShut ++ blk ++ J ++ blk ++ kOpen).size := Row.app (Row.app (Row.app (Row.app (Row.self _) (Row.self _)) (Row.self _)) (Row.self _)) (Row.self _)
theorem row_tight (J : ByteArray) : Row (kShut ++ J ++ kOpen) 0 [kShut, J, kOpen] (kShut ++ J ++ kOpen).size := Row.app (Row.app (Row.self _) (Row.self _)) (Row.self _)
theorem bt_and {s t : ByteArray} {a b : List Wd} {f g : Fm} (hs : Lx s 0 a none) (ht : Lx t 0 b none) (ha : Whole a f) (hb : Whole b g) : Reads (kOpen ++ s ++ mAnd ++ t ++ kShut) (fPair 3 f g) :=
  reads_two (n := 3) (M := mAnd) (by decide) [.b] (.inr rfl) hs ht tk_and (by decide) ha hb (row_mid (Row.of_eq (ba_eq (by decide +kernel)) (row_spaced kAnd)))
theorem bt_or {s t : ByteArray} {a b : List Wd} {f g : Fm} (hs : Lx s 0 a none) (ht : Lx t 0 b none) (ha : Whole a f) (hb : Whole b g) : Reads (kOpen ++ s ++ mOr ++ t ++ kShut) (fPair 4 f g) :=
  reads_two (n := 2) (M := mOr) (by decide) [.b] (.inr rfl) hs ht tk_or (by decide) ha hb (row_mid (Row.of_eq (ba_eq (by decide +kernel)) (row_spaced kOr)))
theorem bt_to {s t : ByteArray} {a b : List Wd} {f g : Fm} (hs : Lx s 0 a none) (ht : Lx t 0 b none) (ha : Whole a f) (hb : Whole b g) : Reads (kOpen ++ s ++ mTo ++ t ++ kShut) (fPair 5 f g) :=
  reads_two (n := 1) (M := mTo) (by decide) [.b] (.inr rfl) hs ht tk_to (by decide) ha hb (row_mid (Row.of_eq (ba_eq (by decide +kernel)) (row_spaced kTo)))
theorem bt_iff {s t : ByteArray} {a b : List Wd} {f g : Fm} (hs : Lx s 0 a none) (ht : Lx t 0 b none) (ha : Whole a f) (hb : Whole b g) : Reads (kOpen ++ s ++ mIff ++ t ++ kShut) (fPair 6 f g) :=
  reads_two (n := 0) (M := mIff) (by decide) [] (.inl rfl) hs ht tk_iff (by decide) ha hb (row_mid (Row.of_eq (ba_eq (by decide +kernel)) (row_tight kIff)))
abbrev lNot : ByteArray := ⟨#[110, 111, 116, 32, 40]⟩
abbrev lEx : ByteArray := ⟨#[101, 120, 32, 120, 44, 32, 121, 46, 32, 40]⟩
abbrev lAll : ByteArray := ⟨#[97, 108, 108, 32, 122, 46, 40, 40]⟩
abbrev lTwo : ByteArray := ⟨#[41, 41]⟩
theorem bt_not {s : ByteArray} {a : List Wd} {f : Fm} (hs : Lx s 0 a none) (ha : Whole a f) : Reads (lNot ++ s ++ kShut) (fNot f) := by
  have hr : Row (kNot ++ blk ++ kOpen) 0 [kNot, blk, kOpen] (kNot ++ blk ++ kOpen).size := Row.app (Row.app (Row.self _) (Row.self _)) (Row.self _)
  have hl : Row lNot 0 [kNot, blk, kOpen] lNot.size := Row.of_eq (ba_eq (by decide +kernel)) hr
  have hu := Row.app (Row.app hl (Row.self s)) (Row.self kShut)
  exact reads_of (l := [.w 2 kNot, .b, .br s a]) ⟨by decide, tk_not, ⟨_, _, rfl, sep_blank, fun _ _ e => by cases e⟩, hs, trivial⟩ hu (not_row ha)
theorem bt_ex {s : ByteArray} {a : List Wd} {f : Fm} (hs : Lx s 0 a none) (ha : Whole a f) : Reads (lEx ++ s ++ kShut) (fQ 7 kX (fQ 7 kY f)) := by
  have hr : Row (kEx ++ blk ++ kX ++ kComma ++ blk ++ kY ++ kDot ++ blk ++ kOpen) 0 [kEx, blk, kX, kComma, blk, kY, kDot, blk, kOpen] (kEx ++ blk ++ kX ++ kComma ++ blk ++ kY ++ kDot ++ blk ++ kOpen).size := Row.app (Row.app (Row.app (Row.app (Row.app (Row.app (Row.app (Row.app (Row.self _) (Row.self _)) (Row.self _)) (Row.self _)) (Row.self _)) (Row.self _)) (Row.self _)) (Row.self _)) (Row.self _)
  have hl : Row lEx 0 [kEx, blk, kX, kComma, blk, kY, kDot, blk, kOpen] lEx.size := Row.of_eq (ba_eq (by decide +kernel)) hr
  have hu := Row.app (Row.app hl (Row.self s)) (Row.self kShut)
  exact reads_of (l := [.w 2 kEx, .b, .w 0 kX, .w 2 kComma, .b, .w 0 kY, .w 2 kDot, .b, .br s a]) ⟨by decide, tk_ex, ⟨_, _, rfl, sep_blank, fun _ _ e => by cases e⟩, by decide, tk_x, ⟨_, _, rfl, sep_com, fun _ _ e => by cases e; decide⟩, by decide, tk_comma, ⟨_, _, rfl, sep_blank, fun _ _ e => by cases e⟩, by decide, tk_y, ⟨_, _, rfl, sep_do, fun _ _ e => by cases e; decide⟩, by decide, tk_dot, ⟨_, _, rfl, sep_blank, fun _ _ e => by cases e⟩, hs, trivial⟩ hu (ex_row ha)
theorem all_row {s : ByteArray} {a : List Wd} {f : Fm} (ha : Whole a f) : Whole (wordsOf 0 [.w 2 kAll, .b, .w 0 kZ, .w 2 kDot, .br s a]) (fQ 8 kZ f) := by
  have s1 := pt_s kAll [] [.b, .w 0 kZ, .w 2 kDot, .br s a]
  have n1 := pt_n kZ [.w 2 kAll, .b] [.w 2 kDot, .br s a]
  have s3 := pt_s kDot [.w 2 kAll, .b, .w 0 kZ] [.br s a]
  have u2 := pt_br (s := s) [.w 2 kAll, .b, .w 0 kZ, .w 2 kDot] [] ha
  have s3' : IsS (wordsOf 0 [.w 2 kAll, .b, .w 0 kZ, .w 2 kDot, .br s a]) 2 kDot := s3
  refine wh_one (PF.qu (o := 8) (by simp) s1 (.last n1 (s3'.ne (by decide))) s3' u2) ?_
  rw [words_len]
  simp [nW, Pt.cnt] <;> omega
theorem bt_all {s : ByteArray} {a : List Wd} {f : Fm} (hs : Lx s 0 a none) (ha : Whole a f) : Reads (lAll ++ s ++ lTwo) (fQ 8 kZ f) := by
  have hin : Row (kOpen ++ s ++ kShut) 0 [kOpen, s, kShut] (kOpen ++ s ++ kShut).size := Row.app (Row.app (Row.self _) (Row.self _)) (Row.self _)
  have hli := row_words (l := [.br s a]) ⟨hs, trivial⟩ hin
  have e : lAll ++ s ++ lTwo = kAll ++ blk ++ kZ ++ kDot ++ kOpen ++ (kOpen ++ s ++ kShut) ++ kShut := by
    have e1 : lAll = kAll ++ blk ++ kZ ++ kDot ++ kOpen ++ kOpen := ba_eq (by decide +kernel)
    have e2 : lTwo = kShut ++ kShut := ba_eq (by decide +kernel)
    rw [e1, e2]
    simp only [ByteArray.append_assoc]
  rw [e]
  have hu := Row.app (Row.app (Row.app (Row.app (Row.app (Row.app (Row.self kAll) (Row.self blk)) (Row.self kZ)) (Row.self kDot)) (Row.self kOpen)) (Row.self (kOpen ++ s ++ kShut))) (Row.self kShut)
  exact reads_of (l := [.w 2 kAll, .b, .w 0 kZ, .w 2 kDot, .br (kOpen ++ s ++ kShut) (wordsOf 0 [.br s a])]) ⟨by decide, tk_all, ⟨_, _, rfl, sep_blank, fun _ _ e => by cases e⟩, by decide, tk_z, ⟨_, _, rfl, sep_do, fun _ _ e => by cases e; decide⟩, by decide, tk_dot, ⟨_, _, rfl, sep_open, fun _ _ e => by cases e⟩, hli, trivial⟩ hu (all_row (br_row ha))
end Go.Proofs.YtabfhdmcljdjhaaDoor.Gl
