/- The document's Rises, Sorted. -/
import Derived.Test.YtiapkblebbcfbaaGlH
import Derived.Deep.RegionWith
import Derived.Deep.RegionHeld3
import Derived.Deep.QuietTactic
import Derived.BigQuiet
import Derived.Deep.DrawnRows
namespace Go.Proofs.Ytiapkblebbcfbaa.Gl
open Go.RowKit
set_option linter.unusedVariables false

theorem wrap_nat {q : Nat} (h : q ≤ 9223372036854775807) : IntKind.i64.wrap (q : Int) = (q : Int) := by
  rw [IntKind.wrap_i64]; omega
structure Cl (B : Nat) (W : World) (p : Addr) (v : Value) where
  w : World
  cell : w.cell? p = some v
  bel : Below B W w
theorem cl_call {B : Nat} {W : World} {p : Addr} {u : Value} {f : FuncId} {args : Array Value} {v : Value} (hB : B ≤ W.heap.size) (h : ∀ w, Calls Try.prog f args w fun e w' => e = .returned v ∧ Below w.heap.size w w') (n : Cl B W p u) :
    Calls Try.prog f args n.w fun e w'' => e = .returned v ∧ ∃ m : Cl B W p u, w'' = m.w :=
  (h n.w).mono fun e w' ⟨he, hb⟩ => ⟨he, ⟨w', (hb.cell (World.block_lt_of_cell? _ _ n.cell)).trans n.cell, n.bel.trans (hb.mono (Nat.le_trans hB n.bel.size))⟩, rfl⟩
theorem wp_region_cls {P : Program} {id : Nat} {Q : Exit → Act → World → Prop} {a : Act} {w : World} {l : List Oper} (C : World → Prop) (hm : P.follows .mixedOrders = true) (hB : Region.lexB .any l.toArray = true) (hC : C w.drew)
    (h : wpQuiet P l.toArray C (fun a' => ∀ w', C w' → Q .normal a' w') l a) : (Code.region id l.toArray true).wp P Q a w :=
  wp_region_quiet hm hB hC (by simpa using h)
/-- the texts are no longer than a text may be -/
def Short (T : List ByteArray) : Prop := ∀ x ∈ T, x.size ≤ 9223372036854775807
theorem Short.get {T : List ByteArray} (h : Short T) {i : Nat} (hi : i < T.length) : (T.getD i emp).size ≤ 9223372036854775807 := by
  rw [sgetD_of hi]; exact h _ (List.getElem_mem hi)
def RiseAt (T : List ByteArray) (i : Nat) : Prop := IsName (T.getD i emp) ∧ (0 < i → ltS (T.getD (i - 1) emp) (T.getD i emp) = true)
def Rise (T : List ByteArray) : Prop := ∀ i, i < T.length → RiseAt T i
theorem name_yes (s : ByteArray) (w : World) (hs : s.size ≤ 9223372036854775807) (h : IsName s) : Calls Try.prog 34 #[.string s] w fun e w' => e = .returned (.bool true) ∧ Below w.heap.size w w' := rname_at s true w hs ⟨fun _ => h, fun _ => rfl⟩
theorem name_not (s : ByteArray) (w : World) (hs : s.size ≤ 9223372036854775807) (h : ¬ IsName s) : Calls Try.prog 34 #[.string s] w fun e w' => e = .returned (.bool false) ∧ Below w.heap.size w w' := rname_at s false w hs ⟨fun e => (by cases e), fun e => absurd e h⟩
set_option maxHeartbeats 4000000 in
theorem rrises_at (ao : Option Addr) (n c : Nat) (T : List ByteArray) (b : Bool) (w : World) (h : RdS w ao n c T) (hT : Short T) (hb : b = true ↔ Rise T) :
    Calls Try.prog 19 #[.slice ao n c] w fun e w' => e = .returned (.bool b) ∧ Below w.heap.size w w' := by
  have hcn := h.lecap
  have hcx := h.lemax
  have HT : Hid (T.length = n) := h.eqlen
  have HB : Hid (b = true ↔ Rise T) := hb
  have HSh : Hid (Short T) := hT
  clear hb hT
  go_enter Try.func19, Try.ntmps19
  go_wp2
  go_loopw [3] (fun i wr => ∃ k : Nat, k ≤ n ∧ i = .int .i64 k ∧ Hid (∀ j, j < k → RiseAt T j) ∧ Below w.heap.size w wr) (fun i _ => n - (intOf i).toNat)
  case atStart => exact ⟨0, Nat.zero_le _, rfl, fun j hj => absurd hj (by omega), Below.refl _ _⟩
  case round =>
    obtain ⟨k, hk, rfl, hall, hB⟩ := hrel
    by_cases hlt : k < n
    · obtain ⟨g, o, rfl, hc0⟩ := h.cell k hlt
      have hgl := World.block_lt_of_cell? _ _ hc0
      have hc := (hB.cell (p := ⟨g, o + k, none⟩) hgl).trans hc0
      have HNO : Hid (¬ RiseAt T k → b = false) := fun hn => by
        cases b with
        | false => rfl
        | true => exact absurd (HB.out.1 rfl k (by rw [HT.out]; exact hlt)) hn
      have hxs := HSh.out.get (i := k) (by rw [HT.out]; exact hlt)
      have hk0 : (0 : Int) ≤ (k : Int) := by omega
      have hk1 : (k : Int) < (n : Int) := by omega
      by_cases hnm : IsName (T.getD k emp)
      · have NM : Hid (∀ w, Calls Try.prog 34 #[.string (T.getD k emp)] w fun e w' => e = .returned (.bool true) ∧ Below w.heap.size w w') := fun w => name_yes _ w hxs hnm
        rcases Nat.eq_zero_or_pos k with hkz | hkp
        · have HY : Hid (RiseAt T k) := ⟨hnm, fun h => by omega⟩
          have hdec : decide (0 < k) = false := decide_eq_false (by omega)
          have hdec2 : ¬ 0 < k := by omega
          have hkq : k ≤ 0 := by omega
          clear hnm hxs HNO hkz
          generalize hx : T.getD k emp = x at *
          clear hx
          go_wp2
          haveI : Nonempty (Cl w.heap.size w ⟨g, o + k, none⟩ (.string x)) := ⟨⟨wr, hc, hB⟩⟩
          have F1 : ∀ n : Cl w.heap.size w ⟨g, o + k, none⟩ (.string x), n.w.cell? ⟨g, o + k, none⟩ = some (.string x) := fun n => n.cell
          refine wp_region_cls (fun w' => ∃ n : Cl w.heap.size w ⟨g, o + k, none⟩ (.string x), w' = n.w) (by kernel_rfl) (by kernel_rfl) ⟨⟨wr.drew, hc, hB.drew⟩, rfl⟩ ?_
          repeat (first
            | go_big_quiet_step ((go_at_call 34; exact cl_call (Nat.le_refl _) NM.out _))
            | quiet_step ((go_at_call 34; exact cl_call (Nat.le_refl _) NM.out _)))
          refine wpQuiet_nil ?_
          intro _ hw'
          obtain ⟨n1, hw''⟩ := hw'
          subst hw''
          clear F1
          go_wp2
          go_roundw
          case rel =>
            refine ⟨k + 1, by omega, by go_num, fun j hj => ?_, n1.bel⟩
            obtain rfl : j = k := by omega
            exact HY.out
          case measure => simp [intOf]; omega
        · obtain ⟨q, hq1, hq2⟩ : ∃ q, q + 1 ≤ k ∧ k ≤ q + 1 := ⟨k - 1, by omega, by omega⟩
          have hkq : k - 1 = q := by omega
          obtain ⟨g', o', e', hd0⟩ := h.cell q (by omega)
          obtain ⟨rfl, rfl⟩ : g = g' ∧ o = o' := by simpa using e'
          have hd := (hB.cell (p := ⟨g, o + q, none⟩) hgl).trans hd0
          have i1 : (k : Int) - 1 = (q : Int) := by omega
          have i2 : IntKind.i64.wrap (q : Int) = (q : Int) := wrap_nat (by omega)
          have i3 : (0 : Int) ≤ (q : Int) := by omega
          have i4 : (q : Int) < (n : Int) := by omega
          have hdec : decide ((0 : Int) < (k : Int)) = true := decide_eq_true (by omega)
          have HR : Hid (ltS (T.getD q emp) (T.getD k emp) = true → RiseAt T k) := fun hl => ⟨hnm, fun _ => by rw [hkq]; exact hl⟩
          have HN2 : Hid (ltS (T.getD q emp) (T.getD k emp) = false → b = false) := fun hl => HNO.out (fun hr => by have := hr.2 (by omega); rw [hkq, hl] at this; cases this)
          clear hnm hxs HNO e' hkq
          generalize hx : T.getD k emp = x at *
          generalize hy : T.getD q emp = y at *
          clear hx hy
          cases hls : ltS y x with
          | true =>
            have HY : Hid (RiseAt T k) := HR.out hls
            have hl2 : Op.bytesLess y.toList x.toList = true := hls
            clear HR HN2 hls
            go_wp2
            go_region_held3 (fun w' => w'.cell? ⟨g, o + k, none⟩ = some (.string x) ∧ w'.cell? ⟨g, o + q, none⟩ = some (.string y)) (first | exact ⟨hc, hd⟩ | exact ⟨hc2, hd2⟩) ((go_at_call 34; refine (NM.out _).mono ?_; rintro e w2 ⟨rfl, hB2⟩; have hBc := hB.drew.trans (hB2.mono hB.size); have hc2 := (hBc.cell (p := ⟨g, o + k, none⟩) hgl).trans hc0; have hd2 := (hBc.cell (p := ⟨g, o + q, none⟩) hgl).trans hd0))
            go_wp2
            go_roundw
            case rel =>
              refine ⟨k + 1, by omega, by go_num, fun j hj => ?_, hBc⟩
              rcases Nat.lt_succ_iff_lt_or_eq.1 hj with hj | rfl
              · exact hall.out j hj
              · exact HY.out
            case measure => simp [intOf]; omega
          | false =>
            have HE : Hid (b = false) := HN2.out hls
            have hl2 : Op.bytesLess y.toList x.toList = false := hls
            clear HR HN2 hls
            go_wp2
            go_region_held3 (fun w' => w'.cell? ⟨g, o + k, none⟩ = some (.string x) ∧ w'.cell? ⟨g, o + q, none⟩ = some (.string y)) (first | exact ⟨hc, hd⟩ | exact ⟨hc2, hd2⟩) ((go_at_call 34; refine (NM.out _).mono ?_; rintro e w2 ⟨rfl, hB2⟩; have hBc := hB.drew.trans (hB2.mono hB.size); have hc2 := (hBc.cell (p := ⟨g, o + k, none⟩) hgl).trans hc0; have hd2 := (hBc.cell (p := ⟨g, o + q, none⟩) hgl).trans hd0))
            go_wp2
            go_ret
            exact ⟨retb HE.out.symm, hBc⟩
      · have HE : Hid (b = false) := HNO.out (fun hr => hnm hr.1)
        have NM : Hid (∀ w, Calls Try.prog 34 #[.string (T.getD k emp)] w fun e w' => e = .returned (.bool false) ∧ Below w.heap.size w w') := fun w => name_not _ w hxs hnm
        clear hnm hxs HNO
        generalize hx : T.getD k emp = x at *
        clear hx
        go_wp2
        haveI : Nonempty (Cl w.heap.size w ⟨g, o + k, none⟩ (.string x)) := ⟨⟨wr, hc, hB⟩⟩
        have F1 : ∀ n : Cl w.heap.size w ⟨g, o + k, none⟩ (.string x), n.w.cell? ⟨g, o + k, none⟩ = some (.string x) := fun n => n.cell
        refine wp_region_cls (fun w' => ∃ n : Cl w.heap.size w ⟨g, o + k, none⟩ (.string x), w' = n.w) (by kernel_rfl) (by kernel_rfl) ⟨⟨wr.drew, hc, hB.drew⟩, rfl⟩ ?_
        repeat (first
          | go_big_quiet_step ((go_at_call 34; exact cl_call (Nat.le_refl _) NM.out _))
          | quiet_step ((go_at_call 34; exact cl_call (Nat.le_refl _) NM.out _)))
        refine wpQuiet_nil ?_
        intro _ hw'
        obtain ⟨n1, hw''⟩ := hw'
        subst hw''
        clear F1
        go_wp2
        go_ret
        exact ⟨retb HE.out.symm, n1.bel⟩
    · obtain rfl : k = n := by omega
      have HE : Hid (b = true) := HB.out.2 (fun i hi => hall.out i (by rw [HT.out] at hi; exact hi))
      go_wp2
      go_ret
      exact ⟨retb HE.out.symm, hB⟩
end Go.Proofs.Ytiapkblebbcfbaa.Gl
