/- The law's digits, written. -/
import Derived.Test.YtncgmnijgdfenaaGreatDoorTrA
import Derived.Laws.BytesString
import Derived.Laws.Rows
import Derived.Test.YtncgmnijgdfenaaGreatDoorRows
import Derived.LaidMore
import Derived.OpenShut
import Derived.Stop.LaidErr
import Derived.Lib.LaidTab
import Derived.Lib.Strings
import Derived.Shelf.Strconv.Clone
import Derived.Shelf.Strconv.ParseIntPublic10
import Derived.Test.YtncgmnijgdfenaaGreatDoorProg
namespace Go.Proofs.YtncgmnijgdfenaaGreatDoor.Gl
open Go.RowKit
set_option linter.unusedVariables false

theorem dec_len (n : Nat) : (decL n).length ≤ n / 2 + 1 := by
  induction n using Nat.strongRecOn with
  | _ n ih =>
    by_cases h : n < 10
    · rw [dec_lt h]; simp
    · have := ih (n / 10) (by omega)
      rw [dec_ge h, List.length_append]
      simp only [List.length_singleton]
      omega
theorem dec_part {n q : Nat} {t : List UInt8} (h : decL n = decL q ++ t) : t.length ≤ n / 2 := by
  have h1 := dec_len n
  have h2 := (dec_all q).1
  rw [h, List.length_append] at h1
  omega
theorem u8_add {r : Nat} (h : r < 10) : (48 : UInt8) + UInt8.ofNat r = UInt8.ofNat (48 + r) := by
  rw [← UInt8.toNat_inj, UInt8.toNat_add, u8_of (by omega), u8_of (by omega)]
  show (48 + r) % 256 = 48 + r
  omega
theorem str_cons {r : Nat} {t : List UInt8} (h : r < 10) : Value.string (⟨#[48 + UInt8.ofNat r]⟩ ++ ⟨t.toArray⟩) = .string ⟨(UInt8.ofNat (48 + r) :: t).toArray⟩ := by
  rw [u8_add h]
  congr 1
theorem conv_one (W : World) (c : Nat) (z : Int) (hz : z = (c : Int)) : (convert 72 9 (.slice (some ⟨W.heap.size, 0, none⟩) 1 1)).run Tryz.prog (W.alloc (.cells #[.int .u8 z] 5)) = .ok (.string ⟨#[UInt8.ofNat c]⟩) (W.alloc (.cells #[.int .u8 z] 5)) := by
  subst hz
  rw [run_convert_bytes_string _ 72 9 5 _ _ _ Tryz.underlying72 Tryz.underlying5 Tryz.underlying9]
  have hload := run_loadCells_list (P := Tryz.prog) (w := W.alloc (.cells #[.int .u8 (c : Int)] 5)) ⟨W.heap.size, 0, none⟩ [.int .u8 (c : Int)] (fun j v hj => by
    match j, hj with
    | 0, hj => simp at hj; subst hj; simp [Addr.add])
  rw [run_bytesToString _ ⟨W.heap.size, 0, none⟩ 1 1 [(c : Int)] (by simpa using hload)]
  rfl
end Go.Proofs.YtncgmnijgdfenaaGreatDoor.Gl
/- The program's variables; isDigit, sign, HasPrefix, run, longestSign. -/
namespace Go.Proofs.YtncgmnijgdfenaaGreatDoor.Gl
open Go.RowKit
set_option linter.unusedVariables false

abbrev sgnArr : Array Value := #[.string ⟨#[40]⟩, .string ⟨#[41]⟩, .string ⟨#[91]⟩, .string ⟨#[93]⟩, .string ⟨#[44]⟩, .string ⟨#[46]⟩, .string ⟨#[43]⟩, .string ⟨#[45]⟩, .string ⟨#[42]⟩, .string ⟨#[61]⟩, .string ⟨#[33, 61]⟩, .string ⟨#[60, 61]⟩, .string ⟨#[62, 61]⟩, .string ⟨#[60]⟩, .string ⟨#[62]⟩, .string ⟨#[45, 62]⟩, .string ⟨#[60, 45, 62]⟩, .string ⟨#[126]⟩]
/-- the variables hold what the text of the program lays -/
structure Sg (w : World) : Prop where
  signs : ∃ t fr, w.heap[0]? = some (.cells sgnArr t fr)
  range : ∃ te pe, w.cell? ⟨3, 0, none⟩ = some (.iface te pe)
theorem Sg.lt {w : World} (h : Sg w) : 0 < w.heap.size ∧ 3 < w.heap.size := by
  obtain ⟨t, fr, h1⟩ := h.signs
  obtain ⟨te, pe, h2⟩ := h.range
  exact ⟨(Array.getElem?_eq_some_iff.1 h1).1, World.block_lt_of_cell? _ _ h2⟩
theorem Sg.below {w w' : World} (h : Sg w) (hb : Below w.heap.size w w') : Sg w' := by
  obtain ⟨l1, l2⟩ := h.lt
  obtain ⟨t, fr, h1⟩ := h.signs
  obtain ⟨te, pe, h2⟩ := h.range
  exact ⟨⟨t, fr, (hb.block _ l1).trans h1⟩, ⟨te, pe, (hb.cell (p := ⟨3, 0, none⟩) l2).trans h2⟩⟩
theorem Sg.alloc {w : World} (h : Sg w) (o : Obj) : Sg (w.alloc o) := h.below ((Below.refl _ _).alloc (Nat.le_refl _) _)
theorem isdig_at (r : Nat) (w : World) :
    Calls Tryz.prog 74 #[.int .i32 r] w fun e w' => e = .returned (.bool (isDig r)) ∧ w = w' := by
  by_cases h : 48 ≤ r
  · by_cases h2 : r ≤ 57
    · have HE : Hid (isDig r = true) := by show decide _ = true; exact decide_eq_true ⟨h, h2⟩
      have k1 : (48 : Int) ≤ (r : Int) := by omega
      have k2 : (r : Int) ≤ 57 := by omega
      go_enter Tryz.func74, Tryz.ntmps74
      go_wp2
      go_ret
      exact ⟨retb HE.out.symm, rfl⟩
    · have HE : Hid (isDig r = false) := by show decide _ = false; exact decide_eq_false (fun hh => h2 hh.2)
      have k1 : (48 : Int) ≤ (r : Int) := by omega
      have k2 : decide ((r : Int) ≤ 57) = false := decide_eq_false (by omega)
      go_enter Tryz.func74, Tryz.ntmps74
      go_wp2
      go_ret
      exact ⟨retb HE.out.symm, rfl⟩
  · have HE : Hid (isDig r = false) := by show decide _ = false; exact decide_eq_false (fun hh => h hh.1)
    have k1 : decide ((48 : Int) ≤ (r : Int)) = false := decide_eq_false (by omega)
    go_enter Tryz.func74, Tryz.ntmps74
    go_wp2
    go_ret
    exact ⟨retb HE.out.symm, rfl⟩
abbrev wordV (k : Nat) (t : ByteArray) (v : Nat) (b c : Nat) : Value := .agg #[.int .i64 k, .string t, .int .i64 v, .int .i64 b, .int .i64 c]
theorem sign_at (t : ByteArray) (w : World) :
    Calls Tryz.prog 77 #[.string t] w fun e w' => e = .returned (wordV 2 t 0 0 0) ∧ Below w.heap.size w w' := by
  go_enter Tryz.func77, Tryz.ntmps77
  go_wp2
  exact bodyPost_ret (v := wordV 2 t 0 0 0) (by simp [results, Tryz.results77, go_sem]) rfl ⟨rfl, (Below.refl _ _).alloc (Nat.le_refl _) _⟩
/- HasPrefix -/
theorem fits_take (t x : ByteArray) (h : x.size ≤ t.size) : ((t.extract 0 x.size).toList == x.toList) = fits t 0 x := by
  rw [Bool.eq_iff_iff, fits_iff, beq_iff_eq]
  constructor
  · intro e
    have e' := toList_inj e
    refine ⟨by omega, fun j hj => ?_⟩
    rw [← e', bt_win t 0 x.size j h (by omega)]
  · rintro ⟨_, h2⟩
    have : t.extract 0 x.size = x.extract 0 x.size := extract_eq (Nat.le_refl _) h rfl (fun k hk => by simpa using h2 k (by omega))
    rw [this, extract_all]
theorem hp_at (t x : ByteArray) (w : World) (hs : t.size ≤ 9223372036854775807) :
    Calls Tryz.prog 88 #[.string t, .string x] w fun e w' => e = .returned (.bool (fits t 0 x)) ∧ w = w' := by
  by_cases h : x.size ≤ t.size
  · have HE : Hid (((t.extract 0 x.size).toList == x.toList) = fits t 0 x) := fits_take t x h
    have h1 : (x.size : Int) ≤ (t.size : Int) := by omega
    go_enter Tryz.func88, Tryz.ntmps88
    go_wp2
    go_ret
    exact ⟨retb HE.out, rfl⟩
  · have HE : Hid (false = fits t 0 x) := by
      show _ = _
      cases hf : fits t 0 x with
      | false => rfl
      | true => have := (fits_iff t 0 x).1 hf; omega
    have h1 : decide (x.size ≤ t.size) = false := decide_eq_false h
    go_enter Tryz.func88, Tryz.ntmps88
    go_wp2
    go_ret
    exact ⟨retb HE.out, rfl⟩
theorem hasprefix_at (t x : ByteArray) (w : World) (hs : t.size ≤ 9223372036854775807) :
    Calls Tryz.prog 69 #[.string t, .string x] w fun e w' => e = .returned (.bool (fits t 0 x)) ∧ w = w' := by
  have K : Hid (∀ w, Calls Tryz.prog 88 #[.string t, .string x] w fun e w' => e = .returned (.bool (fits t 0 x)) ∧ w = w') := fun w => hp_at t x w hs
  generalize fits t 0 x = b at *
  go_enter Tryz.func69, Tryz.ntmps69
  go_wp2_with (go_at_call 88; refine (K.out _).mono ?_; rintro e w2 ⟨rfl, rfl⟩)
  go_ret
  exact ⟨rfl, rfl⟩
/- run -/
theorem ok_of_dig {s : ByteArray} {p : Nat} (h : isDig (rdS s p).1 = true) : (rdS s p).2.2 = true := by
  have : (rdS s p).1 < 128 := by
    have := of_decide_eq_true h
    omega
  exact (rd_ascii this).2.2
theorem RunTo.snoc {P : Nat → Bool} {s : ByteArray} {p q : Nat} (h : RunTo P s p q) (h1 : q < s.size) (h2 : (rdS s q).2.2 = true) (h3 : P (rdS s q).1 = true) : RunTo P s p (q + (rdS s q).2.1) := by
  induction h with
  | nil => exact .cons h1 h2 h3 (.nil _)
  | cons a b c _ ih => exact .cons a b c (ih h1 h2 h3)
set_option maxHeartbeats 1000000 in
theorem runre_at (s : ByteArray) (w : World) (hs : s.size ≤ 9223372036854775807) :
    Calls Tryz.prog 71 #[.string s, .func (.func 72) #[] #[]] w fun e w' => e = .returned (.string (s.extract 0 (run reN s 0))) ∧ Below w.heap.size w w' := by
  have PR : Hid (∀ (r : Nat) w, Calls Tryz.prog 72 #[.int .i32 r] w fun e w' => e = .returned (.bool (reN r)) ∧ w = w') := fun r w => rest_at (r : Nat) w
  go_enter Tryz.func71, Tryz.ntmps71
  go_wp2
  go_loopw [] (fun wr => ∃ p : Nat, wr = w.iter s p ∧ p ≤ s.size ∧ Hid (RunTo reN s 0 p)) (fun wr => s.size - wr.iterPos w.heap.size)
  case atStart => exact ⟨0, rfl, Nat.zero_le _, .nil 0⟩
  case round =>
    obtain ⟨p, rfl, hle, hrun⟩ := hrel
    by_cases hlt : p < s.size
    · obtain ⟨hb1, hb2, hb3⟩ := rd_bd s p hlt
      have HY : Hid (reN (rdS s p).1 = true → RunTo reN s 0 (p + (rdS s p).2.1)) := fun h => hrun.out.snoc hlt (ok_of_re h) h
      have HN : Hid (reN (rdS s p).1 = false → s.extract 0 p = s.extract 0 (run reN s 0)) := fun h => by
        rw [run_is hrun.out (fun hc => by rw [h] at hc; exact absurd hc.2.2 (by decide))]
      have hnx := next_at w s p _ _ hlt rfl rfl
      have P0 : Hid (∀ w, Calls Tryz.prog 72 #[.int .i32 ((rdS s p).1 : Nat)] w fun e w' => e = .returned (.bool (reN (rdS s p).1)) ∧ w = w') := PR.out (rdS s p).1
      generalize hr : (rdS s p).1 = r at *
      generalize hw : (rdS s p).2.1 = wd at *
      clear hr hw PR
      cases hc : reN r with
      | true =>
        rw [hc] at P0
        have HY' := HY.out hc
        clear HY HN hc hrun
        go_wp2_with (go_at_call 72; refine (P0.out _).mono ?_; rintro e w2 ⟨rfl, rfl⟩)
        go_roundw
        case rel => exact ⟨p + wd, rfl, hb2, HY'⟩
        case measure => simp only [World.iterPos_iter]; omega
      | false =>
        rw [hc] at P0
        have HE : Hid (s.extract 0 p = s.extract 0 (run reN s 0)) := HN.out hc
        clear HY HN hc hrun
        go_wp2_with (go_at_call 72; refine (P0.out _).mono ?_; rintro e w2 ⟨rfl, rfl⟩)
        go_ret
        exact ⟨congrArg (fun x => Ending.returned (.string x)) HE.out, iter_below _ _ _⟩
    · have HE : Hid (s = s.extract 0 (run reN s 0)) := by
        show _ = _
        rw [run_is hrun.out (fun hc => hlt hc.1), show p = s.size by omega, extract_all]
      have hnx := fun ty => run_next_end (P := Tryz.prog) w s p ty hlt
      clear hrun
      go_wp2
      go_ret
      exact ⟨congrArg (fun x => Ending.returned (.string x)) HE.out, iter_below _ _ _⟩
set_option maxHeartbeats 1000000 in
theorem rundig_at (s : ByteArray) (w : World) (hs : s.size ≤ 9223372036854775807) :
    Calls Tryz.prog 71 #[.string s, .func (.func 74) #[] #[]] w fun e w' => e = .returned (.string (s.extract 0 (run isDig s 0))) ∧ Below w.heap.size w w' := by
  have PR : Hid (∀ (r : Nat) w, Calls Tryz.prog 74 #[.int .i32 r] w fun e w' => e = .returned (.bool (isDig r)) ∧ w = w') := fun r w => isdig_at r w
  go_enter Tryz.func71, Tryz.ntmps71
  go_wp2
  go_loopw [] (fun wr => ∃ p : Nat, wr = w.iter s p ∧ p ≤ s.size ∧ Hid (RunTo isDig s 0 p)) (fun wr => s.size - wr.iterPos w.heap.size)
  case atStart => exact ⟨0, rfl, Nat.zero_le _, .nil 0⟩
  case round =>
    obtain ⟨p, rfl, hle, hrun⟩ := hrel
    by_cases hlt : p < s.size
    · obtain ⟨hb1, hb2, hb3⟩ := rd_bd s p hlt
      have HY : Hid (isDig (rdS s p).1 = true → RunTo isDig s 0 (p + (rdS s p).2.1)) := fun h => hrun.out.snoc hlt (ok_of_dig h) h
      have HN : Hid (isDig (rdS s p).1 = false → s.extract 0 p = s.extract 0 (run isDig s 0)) := fun h => by
        rw [run_is hrun.out (fun hc => by rw [h] at hc; exact absurd hc.2.2 (by decide))]
      have hnx := next_at w s p _ _ hlt rfl rfl
      have P0 : Hid (∀ w, Calls Tryz.prog 74 #[.int .i32 ((rdS s p).1 : Nat)] w fun e w' => e = .returned (.bool (isDig (rdS s p).1)) ∧ w = w') := PR.out (rdS s p).1
      generalize hr : (rdS s p).1 = r at *
      generalize hw : (rdS s p).2.1 = wd at *
      clear hr hw PR
      cases hc : isDig r with
      | true =>
        rw [hc] at P0
        have HY' := HY.out hc
        clear HY HN hc hrun
        go_wp2_with (go_at_call 74; refine (P0.out _).mono ?_; rintro e w2 ⟨rfl, rfl⟩)
        go_roundw
        case rel => exact ⟨p + wd, rfl, hb2, HY'⟩
        case measure => simp only [World.iterPos_iter]; omega
      | false =>
        rw [hc] at P0
        have HE : Hid (s.extract 0 p = s.extract 0 (run isDig s 0)) := HN.out hc
        clear HY HN hc hrun
        go_wp2_with (go_at_call 74; refine (P0.out _).mono ?_; rintro e w2 ⟨rfl, rfl⟩)
        go_ret
        exact ⟨congrArg (fun x => Ending.returned (.string x)) HE.out, iter_below _ _ _⟩
    · have HE : Hid (s = s.extract 0 (run isDig s 0)) := by
        show _ = _
        rw [run_is hrun.out (fun hc => hlt hc.1), show p = s.size by omega, extract_all]
      have hnx := fun ty => run_next_end (P := Tryz.prog) w s p ty hlt
      clear hrun
      go_wp2
      go_ret
      exact ⟨congrArg (fun x => Ending.returned (.string x)) HE.out, iter_below _ _ _⟩
end Go.Proofs.YtncgmnijgdfenaaGreatDoor.Gl
/- The variables as the row lists them: what the walks ask. -/
namespace Go.Proofs.YtncgmnijgdfenaaGreatDoor.Gl
open Go.RowKit
set_option linter.unusedVariables false

def strsD {H : Type} (l : List (List UInt8)) : DataW H := .agg (l.map fun b => .lit (.string b))
theorem cells_of_strs {H : Type} {enc : TypeId × Value → H} {P : Program} {w : World} {base : Nat} {sp : Nat → Bool} {held : Bool} {fuel : Nat} {t e : TypeId} {n : Nat} {cs : List Value} {l : List (List UInt8)} {p : List MemPlace}
    (ht : P.underlying t = some (.array n e)) (he : P.underlying e = some .string) (hce : P.cellsOf e = 1) (hct : P.cellsOf t = n)
    (h : DataW.trod enc P w base sp held fuel t cs = some (strsD l, p)) : cs = l.map fun b => Value.string ⟨b.toArray⟩ := by
  obtain ⟨xs, m, _, hx, hlen, hxl, hel⟩ := DataW.trod_array ht h
  have hxs : xs.map (·.1) = l.map fun b => (DataW.lit (.string b) : DataW H) := (DataW.agg.inj (Prod.mk.inj hx).1).symm
  have hll : l.length = n := by
    have := congrArg List.length hxs
    simp only [List.length_map] at this
    omega
  apply List.ext_getElem?
  intro i
  by_cases hi : i < n
  · have hk := hel i hi
    have hxi : xs[i]? = some (xs[i]'(by omega)) := List.getElem?_eq_getElem _
    rw [hxi, hce] at hk
    obtain ⟨s, hc, hy, _⟩ := DataW.trod_string he hk
    have h1 : cs[i]? = some (.string s) := by
      have := congrArg (·[0]?) hc
      simpa [List.getElem?_take, List.getElem?_drop] using this
    have h2 : (xs.map (·.1))[i]? = some (DataW.lit (.string s.data.toList) : DataW H) := by rw [List.getElem?_map, hxi, hy]; rfl
    rw [hxs, List.getElem?_map, Option.map_eq_some_iff] at h2
    obtain ⟨b, hb, hbe⟩ := h2
    simp only [DataW.lit.injEq, Lit.string.injEq] at hbe
    rw [h1, List.getElem?_map, hb, hbe]
    show _ = some (Value.string ⟨s.data.toList.toArray⟩)
    rw [Array.toArray_toList]
  · rw [List.getElem?_eq_none (by omega), List.getElem?_eq_none (by simp; omega)]
abbrev laidL : List (String × DataW Unit) := Rows.showBackRow.laid
theorem Tryz.rowErr (u : TypeId) (h : Tryz.prog.typeName? 3 u = some "*errors.errorString") : u = 174 :=
  typeName_ptr_named (nm := "errors.errorString") (by kernel_rfl) (by kernel_rfl) (by decide) u h
theorem Tryz.cellsT (h : True) : Tryz.prog.cellsOf 176 = 1 ∧ Tryz.prog.cellsOf 9 = 1 ∧ Tryz.prog.cellsOf 141 = 18 := ⟨by kernel_rfl, by kernel_rfl, by kernel_rfl⟩
theorem sg_of_laid {W : World} (h : laidMetH Tryz.prog laidL W) : Sg W := by
  rw [MakeChecks.laidMetH_plain _ _ _ (by kernel_rfl)] at h
  have h3 : laidMet Tryz.prog [("strconv.ErrRange", Rows.laid_strconv_ErrRange), ("strconv.ErrSyntax", Rows.laid_strconv_ErrSyntax), ("tabard/lex.signs", Rows.laid_tabard_lex_signs)] W := h.tail.tail.tail
  obtain ⟨c1, c2, c3⟩ := Tryz.cellsT trivial
  have gR : Tryz.prog.globalNamed "strconv.ErrRange" = some 3 := by kernel_rfl
  have gS : Tryz.prog.globalNamed "tabard/lex.signs" = some 0 := by kernel_rfl
  obtain ⟨a, s, hv, _, _, _⟩ := laid_sentinel h3 gR (by kernel_rfl) Tryz.underlying109 Tryz.rowErr Tryz.underlying174 Tryz.underlying176 rfl rfl Tryz.underlying9 c1 c2
  obtain ⟨ps, ⟨g, t, cs, fuel, p, q, hg, ht, hvar, hd, _, _⟩, _⟩ := h3.tail.tail
  obtain rfl := Option.some.inj (gS.symm.trans hg)
  obtain rfl := Option.some.inj ((show (Tryz.prog.globals[0]?).map (·.type) = some 141 by kernel_rfl).symm.trans ht)
  have e : cs.toList = sgnArr.toList := cells_of_strs (l := [[40], [41], [91], [93], [44], [46], [43], [45], [42], [61], [33, 61], [60, 61], [62, 61], [60], [62], [45, 62], [60, 45, 62], [126]]) Tryz.underlying141 Tryz.underlying9 c2 c3 hd
  have e' : cs = sgnArr := Array.toList_inj.1 e
  subst e'
  refine ⟨?_, ⟨_, _, by have := World.var?_cell gR hv 0; simpa using this⟩⟩
  unfold World.var? at hvar
  simp only [hg, Option.bind_some] at hvar
  split at hvar
  · rename_i cs t fr heq
    cases hvar
    exact ⟨_, _, heq⟩
  · cases hvar
end Go.Proofs.YtncgmnijgdfenaaGreatDoor.Gl
/- strconv.ParseInt and Clone: the contracts off the shelf, at this program. -/
namespace Go.Proofs.YtncgmnijgdfenaaGreatDoor.Gl
open Go.Proofs
open Go.Shelf
def laysM316_ren : Go.Shelf.Ren := ⟨fun | 316 => 100 | n => n, fun | 9 => 9 | 3 => 3 | 4 => 4 | 37 => 72 | 0 => 0 | 127 => 100 | 5 => 5 | n => n, fun | n => n⟩
theorem laysM316 : Go.Proofs.LaysM.n316 Tryz.prog laysM316_ren := {
  mixed := by kernel_rfl
  f316 := Tryz.func100.trans (congrArg some (by kernel_rfl))
  t0 := Tryz.underlying0
  a0 := Tryz.isAgg0
  z0 := Tryz.sizeOf0
  v0 := Tryz.zeroValue0
  t3 := Tryz.underlying3
  a3 := Tryz.isAgg3
  z3 := Tryz.sizeOf3
  v3 := Tryz.zeroValue3
  t4 := Tryz.underlying4
  a4 := Tryz.isAgg4
  z4 := Tryz.sizeOf4
  v4 := Tryz.zeroValue4
  t9 := Tryz.underlying9
  a9 := Tryz.isAgg9
  z9 := Tryz.sizeOf9
  v9 := Tryz.zeroValue9
  t37 := Tryz.underlying72
  a37 := Tryz.isAgg72
  z37 := Tryz.sizeOf72
  v37 := Tryz.zeroValue72
  t127 := Tryz.underlying100
  a127 := Tryz.isAgg100
  z127 := Tryz.sizeOf100
  v127 := Tryz.zeroValue100
  t5 := Tryz.underlying5
  a5 := Tryz.isAgg5
  z5 := Tryz.sizeOf5
  v5 := Tryz.zeroValue5
  i0 := by kernel_rfl
  i3 := by kernel_rfl
  i4 := by kernel_rfl
  i5 := by kernel_rfl
  i9 := by kernel_rfl
  i37 := by kernel_rfl
  i127 := by kernel_rfl }
open Go.RowKit in
theorem clone_lib (s : ByteArray) (w : World) (hlim : s.size ≤ 281474976710656) :
    Calls Tryz.prog 100 #[.string s] w fun e w' => e = .returned (.string s) ∧ Below w.heap.size w w' := Any.stringslite_Clone laysM316 s w hlim
def laysC174_ren : Go.Shelf.Ren := ⟨fun | 174 => 93 | 247 => 101 | 245 => 102 | 287 => 110 | 279 => 111 | 280 => 112 | 281 => 113 | 282 => 114 | 321 => 120 | 322 => 121 | 316 => 100 | 171 => 123 | 205 => 122 | 243 => 124 | 246 => 80 | 283 => 95 | 284 => 96 | 285 => 97 | 286 => 98 | 129 => 106 | 317 => 105 | 318 => 107 | 319 => 108 | 320 => 109 | 337 => 118 | 338 => 119 | n => n, fun | 9 => 9 | 3 => 3 | 2 => 2 | 75 => 109 | 85 => 139 | 4 => 4 | 167 => 159 | 5 => 5 | 53 => 144 | 175 => 160 | 46 => 157 | 168 => 162 | 37 => 72 | 0 => 0 | 210 => 170 | 21 => 21 | 127 => 100 | 145 => 176 | 143 => 174 | 171 => 143 | 173 => 147 | 212 => 154 | 51 => 155 | 20 => 20 | 213 => 156 | 232 => 172 | 233 => 173 | 80 => 77 | n => n, fun | 15 => 2 | 16 => 3 | 17 => 1 | 18 => 4 | 19 => 5 | n => n⟩
theorem laysC174 : Go.Proofs.LaysC.n174 Tryz.prog laysC174_ren := {
  mixed := by kernel_rfl
  f129 := Tryz.func106.trans (congrArg some (by kernel_rfl))
  f171 := Tryz.func123.trans (congrArg some (by kernel_rfl))
  f174 := Tryz.func93.trans (congrArg some (by kernel_rfl))
  f205 := Tryz.func122.trans (congrArg some (by kernel_rfl))
  f243 := Tryz.func124.trans (congrArg some (by kernel_rfl))
  f245 := Tryz.func102.trans (congrArg some (by kernel_rfl))
  f246 := Tryz.func80.trans (congrArg some (by kernel_rfl))
  f247 := Tryz.func101.trans (congrArg some (by kernel_rfl))
  f279 := Tryz.func111.trans (congrArg some (by kernel_rfl))
  f280 := Tryz.func112.trans (congrArg some (by kernel_rfl))
  f281 := Tryz.func113.trans (congrArg some (by kernel_rfl))
  f282 := Tryz.func114.trans (congrArg some (by kernel_rfl))
  f283 := Tryz.func95.trans (congrArg some (by kernel_rfl))
  f284 := Tryz.func96.trans (congrArg some (by kernel_rfl))
  f285 := Tryz.func97.trans (congrArg some (by kernel_rfl))
  f286 := Tryz.func98.trans (congrArg some (by kernel_rfl))
  f287 := Tryz.func110.trans (congrArg some (by kernel_rfl))
  f316 := Tryz.func100.trans (congrArg some (by kernel_rfl))
  f317 := Tryz.func105.trans (congrArg some (by kernel_rfl))
  f318 := Tryz.func107.trans (congrArg some (by kernel_rfl))
  f319 := Tryz.func108.trans (congrArg some (by kernel_rfl))
  f320 := Tryz.func109.trans (congrArg some (by kernel_rfl))
  f321 := Tryz.func120.trans (congrArg some (by kernel_rfl))
  f322 := Tryz.func121.trans (congrArg some (by kernel_rfl))
  f337 := Tryz.func118.trans (congrArg some (by kernel_rfl))
  f338 := Tryz.func119.trans (congrArg some (by kernel_rfl))
  t0 := Tryz.underlying0
  a0 := Tryz.isAgg0
  z0 := Tryz.sizeOf0
  v0 := Tryz.zeroValue0
  t2 := Tryz.underlying2
  a2 := Tryz.isAgg2
  z2 := Tryz.sizeOf2
  v2 := Tryz.zeroValue2
  t3 := Tryz.underlying3
  a3 := Tryz.isAgg3
  z3 := Tryz.sizeOf3
  v3 := Tryz.zeroValue3
  t4 := Tryz.underlying4
  a4 := Tryz.isAgg4
  z4 := Tryz.sizeOf4
  v4 := Tryz.zeroValue4
  t5 := Tryz.underlying5
  a5 := Tryz.isAgg5
  z5 := Tryz.sizeOf5
  v5 := Tryz.zeroValue5
  t9 := Tryz.underlying9
  a9 := Tryz.isAgg9
  z9 := Tryz.sizeOf9
  v9 := Tryz.zeroValue9
  t20 := Tryz.underlying20
  a20 := Tryz.isAgg20
  z20 := Tryz.sizeOf20
  v20 := Tryz.zeroValue20
  t21 := Tryz.underlying21
  a21 := Tryz.isAgg21
  z21 := Tryz.sizeOf21
  v21 := Tryz.zeroValue21
  t37 := Tryz.underlying72
  a37 := Tryz.isAgg72
  z37 := Tryz.sizeOf72
  v37 := Tryz.zeroValue72
  t46 := Tryz.underlying157
  a46 := Tryz.isAgg157
  z46 := Tryz.sizeOf157
  v46 := Tryz.zeroValue157
  t51 := Tryz.underlying155
  a51 := Tryz.isAgg155
  z51 := Tryz.sizeOf155
  v51 := Tryz.zeroValue155
  t53 := Tryz.underlying144
  a53 := Tryz.isAgg144
  z53 := Tryz.sizeOf144
  v53 := Tryz.zeroValue144
  t75 := Tryz.underlying109
  a75 := Tryz.isAgg109
  z75 := Tryz.sizeOf109
  v75 := Tryz.zeroValue109
  t85 := Tryz.underlying139
  a85 := Tryz.isAgg139
  z85 := Tryz.sizeOf139
  v85 := Tryz.zeroValue139
  t127 := Tryz.underlying100
  a127 := Tryz.isAgg100
  z127 := Tryz.sizeOf100
  v127 := Tryz.zeroValue100
  t143 := Tryz.underlying174
  a143 := Tryz.isAgg174
  z143 := Tryz.sizeOf174
  v143 := Tryz.zeroValue174
  t145 := Tryz.underlying176
  a145 := Tryz.isAgg176
  z145 := Tryz.sizeOf176
  v145 := Tryz.zeroValue176
  t167 := Tryz.underlying159
  a167 := Tryz.isAgg159
  z167 := Tryz.sizeOf159
  v167 := Tryz.zeroValue159
  t168 := Tryz.underlying162
  a168 := Tryz.isAgg162
  z168 := Tryz.sizeOf162
  v168 := Tryz.zeroValue162
  t171 := Tryz.underlying143
  a171 := Tryz.isAgg143
  z171 := Tryz.sizeOf143
  v171 := Tryz.zeroValue143
  t173 := Tryz.underlying147
  a173 := Tryz.isAgg147
  z173 := Tryz.sizeOf147
  v173 := Tryz.zeroValue147
  t175 := Tryz.underlying160
  a175 := Tryz.isAgg160
  z175 := Tryz.sizeOf160
  v175 := Tryz.zeroValue160
  t210 := Tryz.underlying170
  a210 := Tryz.isAgg170
  z210 := Tryz.sizeOf170
  v210 := Tryz.zeroValue170
  t212 := Tryz.underlying154
  a212 := Tryz.isAgg154
  z212 := Tryz.sizeOf154
  v212 := Tryz.zeroValue154
  t213 := Tryz.underlying156
  a213 := Tryz.isAgg156
  z213 := Tryz.sizeOf156
  t232 := Tryz.underlying172
  a232 := Tryz.isAgg172
  z232 := Tryz.sizeOf172
  v232 := Tryz.zeroValue172
  t233 := Tryz.underlying173
  a233 := Tryz.isAgg173
  z233 := Tryz.sizeOf173
  v233 := Tryz.zeroValue173
  g15 := by kernel_rfl
  g16 := by kernel_rfl
  g17 := by kernel_rfl
  g18 := by kernel_rfl
  g19 := by kernel_rfl
  t80 := Tryz.underlying77
  a80 := Tryz.isAgg77
  z80 := Tryz.sizeOf77
  v80 := Tryz.zeroValue77
  i0 := by kernel_rfl
  i2 := by kernel_rfl
  i3 := by kernel_rfl
  i4 := by kernel_rfl
  i5 := by kernel_rfl
  i9 := by kernel_rfl
  i20 := by kernel_rfl
  i21 := by kernel_rfl
  i37 := by kernel_rfl
  i46 := by kernel_rfl
  i51 := by kernel_rfl
  i53 := by kernel_rfl
  i75 := by kernel_rfl
  i80 := by kernel_rfl
  i85 := by kernel_rfl
  i127 := by kernel_rfl
  i143 := by kernel_rfl
  i145 := by kernel_rfl
  i167 := by kernel_rfl
  i168 := by kernel_rfl
  i171 := by kernel_rfl
  i173 := by kernel_rfl
  i175 := by kernel_rfl
  i210 := by kernel_rfl
  i212 := by kernel_rfl
  i232 := by kernel_rfl
  i233 := by kernel_rfl
  m15 := by kernel_rfl
  m16 := by kernel_rfl
  m17 := by kernel_rfl
  m18 := by kernel_rfl
  m19 := by kernel_rfl
  c0 := by kernel_rfl
  c2 := by kernel_rfl
  c3 := by kernel_rfl
  c4 := by kernel_rfl
  c5 := by kernel_rfl
  c9 := by kernel_rfl
  c20 := by kernel_rfl
  c21 := by kernel_rfl
  c37 := by kernel_rfl
  c46 := by kernel_rfl
  c51 := by kernel_rfl
  c53 := by kernel_rfl
  c75 := by kernel_rfl
  c80 := by kernel_rfl
  c85 := by kernel_rfl
  c127 := by kernel_rfl
  c143 := by kernel_rfl
  c145 := by kernel_rfl
  c167 := by kernel_rfl
  c168 := by kernel_rfl
  c171 := by kernel_rfl
  c173 := by kernel_rfl
  c175 := by kernel_rfl
  c210 := by kernel_rfl
  c212 := by kernel_rfl
  c213 := by kernel_rfl
  c232 := by kernel_rfl
  c233 := by kernel_rfl }
open Go.RowKit in
theorem parse_lib_ok (s : ByteArray) (hmax : s.size ≤ 9223372036854775806) (v : Int) (h : Lib.parseIntB 64 s.data.toList = .ok v) (w : World) :
    Calls Tryz.prog 93 #[.string s, .int .i64 10, .int .i64 64] w fun e w' => e = .returned (.tuple #[.int .i64 v, .nilIface]) ∧ (w' = w ∨ ∃ t, w' = Lib.bytesWorld w 5 t) := Any.strconv_ParseInt_10_at64_ok laysC174 s hmax v h w
open Go.RowKit in
theorem parse_lib_range (s : ByteArray) (hlim : s.size ≤ 281474976710656) (h : Lib.parseIntB 64 s.data.toList = .range) (ev : Value) (w : World) (hv : w.cell? ⟨3, 0, none⟩ = some ev) (hev : ev = .nilIface ∨ ∃ te pe, ev = .iface te pe) :
    Calls Tryz.prog 93 #[.string s, .int .i64 10, .int .i64 64] w fun e w' => ∃ N, e = .returned (.tuple #[.int .i64 (Lib.intSat 64 s.data.toList), .iface 162 (.pointer (some ⟨N, 0, none⟩))]) ∧ w.heap.size ≤ N ∧ w'.heap[N]? = some (.cells #[.string ⟨#[80, 97, 114, 115, 101, 73, 110, 116]⟩, .string s, ev] 170 (0, 0)) ∧ Below w.heap.size w w' := Any.strconv_ParseInt_10_at64_range laysC174 s hlim h ev w hv hev
end Go.Proofs.YtncgmnijgdfenaaGreatDoor.Gl
