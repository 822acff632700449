/- The walk of LexAgain, out of what lex.Words answers. -/
import Derived.Test.YthimmohbedaimaaDoorLxJ
namespace Go.Proofs.YthimmohbedaimaaDoor.Gl
open Go.RowKit
set_option linter.unusedVariables false

set_option maxHeartbeats 2000000 in
theorem again_bad (C : LexC) (s : ByteArray) (w : World) (hS : Sg w) (c p k : Nat) (hc : c ≠ 0) (LW : ∀ w, Sg w → Calls Tryd.prog 8 #[.string s] w fun e w' => ∃ v, e = .returned (.tuple #[v, fau c p k]) ∧ w'.ownsRow w.heap.size 35 5 v 0 [] ∧ Below w.heap.size w w') :
    Calls Tryd.prog 4 #[.string s] w fun e w' => e = .returned (.bool true) ∧ Below w.heap.size w w' := by
  have LW' : Hid _ := LW
  have FX : Hid (∀ w, Sg w → Calls Tryd.prog 7 #[] w fun e w' => e = .returned (.bool true) ∧ Below w.heap.size w w') := fun w hS => lfixed_at C w hS
  have hc' : ((c : Int) == 0) = false := by simp; omega
  have hc2 : ((c : Int) != 0) = true := by simp; omega
  clear C LW hc
  go_enter Tryd.func4, Tryd.ntmps4
  go_wp2_with (first
    | (go_at_call 7; refine (FX.out _ hS).mono ?_; rintro e w1 ⟨rfl, hB1⟩; have hS1 := hS.below hB1)
    | (go_at_call 8; refine (LW'.out _ hS1).mono ?_; rintro e w2 ⟨v2, rfl, hO2, hB2⟩; obtain ⟨a2, c2, rfl, hR2⟩ := rdw_of_owns (n := 0) (ws := []) rfl hO2))
  go_ret
  exact ⟨rfl, bta (bt2 hB1 hB2) _⟩
theorem core_get {a b : List Wd} (h : b.map Wd.core = a.map Wd.core) (i : Nat) (hi : i < a.length) (hb : i < b.length) : b[i].kind = a[i].kind ∧ b[i].text = a[i].text ∧ b[i].num = a[i].num := by
  have e : (b.map Wd.core)[i]? = (a.map Wd.core)[i]? := by rw [h]
  rw [List.getElem?_map, List.getElem?_map, List.getElem?_eq_getElem hi, List.getElem?_eq_getElem hb] at e
  simp only [Option.map_some, Option.some.injEq, Wd.core, Prod.mk.injEq] at e
  exact e
theorem full_get (s : ByteArray) (a : List Wd) (i : Nat) (hi : i < a.length) : (a.map (full s)).getD i default = full s a[i] := by
  rw [List.getD_eq_getElem?_getD, List.getElem?_map, List.getElem?_eq_getElem hi]
  rfl
theorem grown_set (w : World) (F j : Nat) (x : Value) : w.grownBy (w.setCell ⟨F, j, none⟩ x) (some F) := by
  refine ⟨rfl, rfl, rfl, by simp, fun k hk hne => ?_⟩
  have : F ≠ k := fun e => hne (by rw [e])
  simp [World.setCell, Array.getElem?_modify, this]
theorem owns_set3 {w : World} {base F n : Nat} {v : Value} {xs : List Value} (h : w.ownsRow base 35 5 v n xs) (hF : F < base) : (((w.setCell ⟨F, 0, none⟩ (.int .i64 0)).setCell ⟨F, 1, none⟩ (.int .i64 0)).setCell ⟨F, 2, none⟩ (.int .i64 0)).ownsRow base 35 5 v n xs := by
  have hne : v.ownBlock = none ∨ v.ownBlock ≠ some F := by
    cases hq : v.ownBlock with
    | none => exact .inl rfl
    | some k => exact .inr (fun e => by have := (h.lt k hq).1; cases e; omega)
  exact ((h.kept (grown_set w F 0 _) hne).kept (grown_set _ F 1 _) hne).kept (grown_set _ F 2 _) hne
set_option maxRecDepth 100000 in
set_option maxHeartbeats 8000000 in
theorem again_good (C : LexC) (s : ByteArray) (w : World) (hS : Sg w) (a : List Wd) (hs : s.size ≤ 4096) (h : Lx s 0 a none) :
    Calls Tryd.prog 4 #[.string s] w fun e w' => e = .returned (.bool true) ∧ Below w.heap.size w w' := by
  obtain ⟨hsm, hal⟩ := h.small hs
  obtain ⟨b, hb, hcore⟩ := txt_lx a h.writes
  have hbl : b.length = a.length := by have := congrArg List.length hcore; simpa using this
  have LA := fun w hS => C.good s a w hS hs h
  have LB := fun (hz : (tx a).size ≤ 4096) w hS => C.good (tx a) b w hS hz (by rw [tx_txt]; exact hb)
  have hsz := tx_size a (fun w hw => (hsm w hw).1)
  rw [hbl] at LB
  have HN : Hid (∀ i (hi : i < a.length), a[i].num ≤ 9223372036854775807) := fun i hi => (hsm _ (List.getElem_mem hi)).2
  have HC : Hid (∀ i (hi : i < a.length) (hb : i < b.length), b[i].kind = a[i].kind ∧ b[i].text = a[i].text ∧ b[i].num = a[i].num) := fun i hi hb => core_get hcore i hi hb
  obtain ⟨n, hn⟩ : ∃ n, a.length = n := ⟨_, rfl⟩
  rw [hn] at LA LB hal
  have LA' : Hid _ := LA
  have LB' : Hid _ := LB
  have HSZ : Hid _ := hsz
  have HLA : Hid (a.length = n) := hn
  have HLB : Hid (b.length = n) := hbl.trans hn
  have FX : Hid (∀ w, Sg w → Calls Tryd.prog 7 #[] w fun e w' => e = .returned (.bool true) ∧ Below w.heap.size w w') := fun w hS => lfixed_at C w hS
  have hn2 : n ≤ 4096 := by omega
  have hma : (a.map (full s)).length = n := by rw [List.length_map, hn]
  have hmb : (b.map (full (tx a))).length = n := by rw [List.length_map]; exact HLB.out
  clear C h hb hcore hbl hsm hsz LA LB hn hal
  go_enter Tryd.func4, Tryd.ntmps4
  go_wp2_with (first
    | (go_at_call 7; refine (FX.out _ hS).mono ?_; rintro e w1 ⟨rfl, hB1⟩; have hS1 := hS.below hB1)
    | (go_at_call 8; refine (LA'.out _ hS1).mono ?_; rintro e w2 ⟨v2, rfl, hO2, hB2⟩; obtain ⟨a2, c2, rfl, hR2⟩ := rdw_of_owns hma hO2))
  have hBw2 := bt2 hB1 hB2
  have hBA := bta hBw2 (.cells #[.int .i64 0, .int .i64 0, .int .i64 0] 29)
  have hRA := hR2.below (B := w2.heap.size) (Nat.le_refl _) ((Below.refl w2.heap.size w2).alloc (Nat.le_refl _) (.cells #[.int .i64 0, .int .i64 0, .int .i64 0] 29))
  have hcn := hR2.lecap
  have hcx := hR2.lemax
  have hBF : Below w2.heap.size w2 (w2.alloc (.cells #[.int .i64 0, .int .i64 0, .int .i64 0] 29)) := (Below.refl w2.heap.size w2).alloc (Nat.le_refl _) _
  clear hO2 hB1 hB2 hma
  obtain ⟨WF, hWF⟩ : ∃ WF, w2.alloc (.cells #[.int .i64 0, .int .i64 0, .int .i64 0] 29) = WF := ⟨_, rfl⟩
  have hWFs : w2.heap.size < WF.heap.size := by rw [← hWF]; simp
  have hf0 : WF.cell? ⟨w2.heap.size, 0, none⟩ = some (.int .i64 0) ∧ WF.cell? ⟨w2.heap.size, 1, none⟩ = some (.int .i64 0) ∧ WF.cell? ⟨w2.heap.size, 2, none⟩ = some (.int .i64 0) ∧ (∀ o, WF.frozen? ⟨w2.heap.size, o, none⟩ = false) := by
    rw [← hWF]; simp
  rw [hWF] at hBA hRA hBF ⊢
  clear hWF
  go_loopw [5, 30] (fun t i wr => ∃ k : Nat, k ≤ n ∧ i = .int .i64 k ∧ t = .string (tx (a.take k)) ∧ Below WF.heap.size WF wr) (fun _ i _ => n - (intOf i).toNat)
  case atStart => exact ⟨0, Nat.zero_le _, rfl, rfl, Below.refl _ _⟩
  case round =>
    obtain ⟨k, hk, rfl, rfl, hBr⟩ := hrel
    have htz := HSZ.out k (by rw [HLA.out]; exact hk)
    by_cases hlt : k < n
    · obtain ⟨g, o, rfl, hg, b0, b1, b2, b3, b4⟩ := (hRA.below (Nat.le_refl _) hBr).cell k hlt
      have hka : k < a.length := by rw [HLA.out]; exact hlt
      have htz2 := HSZ.out (k + 1) (by rw [HLA.out]; omega)
      have HTK : Hid (tx (a.take (k + 1)) = tx (a.take k) ++ (wrt a[k] ++ blk)) := tx_take a k hka
      rw [HTK.out, ByteArray.size_append, ByteArray.size_append] at htz2
      have WR : Hid (∀ w, Calls Tryd.prog 9 #[(full s a[k]).val] w fun e w' => e = .returned (.string (wrt a[k])) ∧ Below w.heap.size w w') := fun w => written_at (full s a[k]) w (HN.out k hka)
      rw [full_get s a k hka] at b0 b1 b2 b3 b4
      unfold FW.val at WR
      generalize hx : full s a[k] = x at *
      generalize hy : wrt a[k] = y at *
      generalize hz : tx (a.take k) = tt at *
      clear hx hy hz
      have hbk : blk.size = 1 := rfl
      go_wp2_with (go_at_call 9; refine (WR.out _).mono ?_; rintro e w4 ⟨rfl, hB4⟩)
      go_roundw
      case rel => exact ⟨k + 1, by omega, by go_num, by rw [HTK.out], bt2 (bta hBr _) hB4⟩
      case measure => simp [intOf]; omega
    · obtain rfl : k = n := by omega
      have htk : tx (a.take k) = tx a := by rw [List.take_of_length_le (by rw [HLA.out]; exact Nat.le_refl _)]
      rw [htk] at htz ⊢
      clear htk
      by_cases hbig : 4096 < (tx a).size
      · generalize tx a = tt at *
        go_wp2
        go_ret
        exact ⟨rfl, bt2 hBA hBr⟩
      · have LB := LB'.out (by omega)
        have LB2 : Hid _ := LB
        have hbig' : decide (4096 < (tx a).size) = false := decide_eq_false hbig
        have hbr := bcell hBr
        have x0 := (hbr.1 _ 0 hWFs).trans hf0.1
        have x1 := (hbr.1 _ 1 hWFs).trans hf0.2.1
        have x2 := (hbr.1 _ 2 hWFs).trans hf0.2.2.1
        have x3 : ∀ o, wr.frozen? ⟨w2.heap.size, o, none⟩ = false := fun o => (hbr.2 _ o hWFs).trans (hf0.2.2.2 o)
        have hFr : w2.heap.size < wr.heap.size := Nat.lt_of_lt_of_le hWFs hBr.size
        have hB2r : Below w2.heap.size w2 wr := hBF.trans (hBr.mono (by omega))
        have hBwr := bt2 hBA hBr
        have hSr := hS.below hBwr
        generalize htx : tx a = tt at *
        clear htx LB hbr hf0 LB' LA' HSZ hRA hBA hBr hBF
        go_wp2_with (go_at_call 8; refine (LB2.out _ hSr).mono ?_; rintro e w5 ⟨v5, rfl, hO5, hB5⟩; have hO5' := owns_set3 hO5 hFr; obtain ⟨a5, c5, rfl, hR5⟩ := rdw_of_owns hmb hO5'; obtain ⟨hc5, hf5⟩ := bcell hB5; have y0 := (hc5 _ 0 hFr).trans x0; have y1 := (hc5 _ 1 hFr).trans x1; have y2 := (hc5 _ 2 hFr).trans x2; have y3 := fun o => (hf5 _ o hFr).trans (x3 o))
        have hBS := ((((hB2r.trans (hB5.mono (Nat.le_of_lt hFr))).setCell (p := ⟨w2.heap.size, 0, none⟩) (Nat.le_refl _) (.int .i64 0)).setCell (p := ⟨w2.heap.size, 1, none⟩) (Nat.le_refl _) (.int .i64 0)).setCell (p := ⟨w2.heap.size, 2, none⟩) (Nat.le_refl _) (.int .i64 0))
        have hwF : w.heap.size ≤ w2.heap.size := hBw2.size
        have hBWS := ((((hBwr.trans (hB5.mono hBwr.size)).setCell (p := ⟨w2.heap.size, 0, none⟩) hwF (.int .i64 0)).setCell (p := ⟨w2.heap.size, 1, none⟩) hwF (.int .i64 0)).setCell (p := ⟨w2.heap.size, 2, none⟩) hwF (.int .i64 0))
        have hRS := hR2.below (Nat.le_refl _) hBS
        obtain ⟨WS, hWS⟩ : ∃ WS, ((w5.setCell ⟨w2.heap.size, 0, none⟩ (.int .i64 0)).setCell ⟨w2.heap.size, 1, none⟩ (.int .i64 0)).setCell ⟨w2.heap.size, 2, none⟩ (.int .i64 0) = WS := ⟨_, rfl⟩
        rw [hWS] at hR5 hRS hBWS ⊢
        have hdn := hR5.lecap
        have hdx := hR5.lemax
        clear hWS hBS hO5 hO5' hB5 hc5 hf5 y0 y1 y2 y3 x0 x1 x2 x3 hB2r hBwr hR2
        obtain ⟨wv, hwv⟩ : ∃ wv, wv = wr := ⟨_, rfl⟩
        subst hwv
        go_loopw [60] (fun i wr => ∃ q : Nat, q ≤ k ∧ i = .int .i64 q ∧ Below WS.heap.size WS wr) (fun i _ => k - (intOf i).toNat)
        case atStart => exact ⟨0, Nat.zero_le _, rfl, Below.refl _ _⟩
        case round =>
          obtain ⟨q, hq, rfl, hBr⟩ := hrel
          by_cases hlt2 : q < k
          · have hqa : q < a.length := by rw [HLA.out]; exact hlt2
            have hqb : q < b.length := by rw [HLB.out]; exact hlt2
            obtain ⟨g, o, rfl, hg, b0, b1, b2, _, _⟩ := (hRS.below (Nat.le_refl _) hBr).cell q hlt2
            obtain ⟨g', o', rfl, hg', c0, c1, c2, _, _⟩ := (hR5.below (Nat.le_refl _) hBr).cell q hlt2
            obtain ⟨e1, e2, e3⟩ := HC.out q hqa hqb
            rw [full_get _ _ _ hqa] at b0 b1 b2
            rw [full_get _ _ _ hqb] at c0 c1 c2
            dsimp only [full] at b0 b1 b2 c0 c1 c2
            rw [e1] at c0
            rw [e2] at c1
            rw [e3] at c2
            have hnd := fun n => below_drewn hBr n
            generalize a[q].kind = x1 at *
            generalize a[q].text = x2 at *
            generalize a[q].num = x3 at *
            have n1 : ((x1 : Int) != (x1 : Int)) = false := by simp
            have n2 : (x2.toList == x2.toList) = true := by simp
            have n3 : ((x3 : Int) != (x3 : Int)) = false := by simp
            clear e1 e2 e3
            go_wp2
            go_quiet (fail)
            go_wp2
            go_roundw
            case rel => exact ⟨q + 1, by omega, by go_num, hnd _⟩
            case measure => simp [intOf]; omega
          · obtain rfl : q = k := by omega
            go_wp2
            go_ret
            exact ⟨rfl, bt2 hBWS hBr⟩
theorem again_walk (C : LexC) (s : ByteArray) (w : World) (hS : Sg w) (hs : s.size ≤ 9223372036854775807) :
    Calls Tryd.prog 4 #[.string s] w fun e w' => e = .returned (.bool true) ∧ Below w.heap.size w w' := by
  by_cases h : 4096 < s.size
  · exact again_bad C s w hS 70 0 0 (by omega) (fun w hS => C.long s w hS h hs)
  · obtain ⟨a, f, hl⟩ := Lx.ex s
    cases f with
    | none => exact again_good C s w hS a (by omega) hl
    | some x =>
      obtain ⟨c, p⟩ := x
      exact again_bad C s w hS c p _ (hl.code c p rfl) (fun w hS => C.bad s a c p w hS (by omega) hl)
end Go.Proofs.YthimmohbedaimaaDoor.Gl
