/- The document's wide numbers: differences and comparisons of absolute values. -/
import Derived.Test.YtkanjgphmafjbaaWideC
namespace Go.Proofs.Ytkanjgphmafjbaa.Wd
open Go.RowKit
set_option linter.unusedVariables false

set_option maxHeartbeats 2000000 in
theorem minus_abs (na nb : Bool) (ao bo : Option Addr) (la ca lb cb : Nat) (A B : List Nat) (w : World) (hA : Dg w ao la ca A) (hB : Dg w bo lb cb B) (ha : la ≤ 64) (hb : lb ≤ la) (hle : Hid (val B ≤ val A)) :
    Calls Try.prog 55 #[.agg #[.bool na, .slice ao la ca], .agg #[.bool nb, .slice bo lb cb]] w fun e w' => ∃ ro lr cr R, e = .returned (.slice ro lr cr) ∧ Dg w' ro lr cr R ∧ val R = val A - val B ∧ Below w.heap.size w w' := by
  have hcA := hA.lecap
  have hmA := hA.lemax
  have hmA' := hA.lelen
  have hcB := hB.lecap
  have hmB := hB.lemax
  have hmB' := hB.lelen
  go_enter Try.func55, Try.ntmps55
  go_wp2
  go_loopw [5, 6, 7] (fun v c i wr => ∃ (k cy : Nat) (O : List Nat), i = .int .i64 k ∧ c = .int .u64 cy ∧ cy ≤ 1 ∧ O.length = k ∧ Small O ∧ wr.ownsRow (w.heap.size + 2) 63 1 v k (cellsU O) ∧ Hid (val O + V (dg B) k = V (dg A) k + 65536 ^ k * cy) ∧
      k ≤ la ∧ Below (w.heap.size + 2) ((w.alloc (.cells #[.bool na, .slice ao la ca] 59)).alloc (.cells #[.bool nb, .slice bo lb cb] 59)) wr)
    (fun _ _ i _ => la - (intOf i).toNat)
  case atStart => exact ⟨0, 0, [], rfl, rfl, by omega, rfl, (fun d hd => by simp at hd), World.ownsRow_nil _ _ _ _, by simp [Hid, val, V], by omega, Below.refl _ _⟩
  case round =>
    obtain ⟨k, cy, O, rfl, rfl, hcy, hOl, hOs, hown, hinv, hend, hnx⟩ := hrel
    have c0 : wr.cell? ⟨w.heap.size, 0, none⟩ = some (.bool na) := by rw [hnx.cell (by simp)]; simp
    have c1 : wr.cell? ⟨w.heap.size, 1, none⟩ = some (.slice ao la ca) := by rw [hnx.cell (by simp)]; simp
    have c2 : wr.cell? ⟨w.heap.size + 1, 0, none⟩ = some (.bool nb) := by rw [hnx.cell (by simp)]; simp
    have c3 : wr.cell? ⟨w.heap.size + 1, 1, none⟩ = some (.slice bo lb cb) := by rw [hnx.cell (by simp)]; simp
    have hsz : w.heap.size + 2 ≤ wr.heap.size := by have := hnx.size; simp at this; omega
    have hbw : Below w.heap.size w wr := (((Below.refl _ _).alloc (Nat.le_refl _) _).alloc (by simp) _).trans (hnx.mono (by omega))
    have hbw1 : Below w.heap.size w wr.drew := hbw.drew
    have hbw2 : ∀ o, Below w.heap.size w (wr.alloc o).drew := fun o => (hbw.alloc (by omega) o).drew
    have hlA := dg_lt hA.small k
    have hlB := dg_lt hB.small k
    obtain ⟨S, hS⟩ : ∃ S, S = dg A k + 65536 - dg B k - cy := ⟨_, rfl⟩
    have hS1 : IntKind.u64.wrap (IntKind.u64.wrap (IntKind.u64.wrap (↑(dg A k) + 65536) - ↑(dg B k)) - ↑cy) = (S : Int) := by rw [IntKind.wrap_u64, IntKind.wrap_u64, IntKind.wrap_u64]; omega
    have hS2 : bits .and .u64 (S : Int) 65535 = ((S % 65536 : Nat) : Int) := by rw [and_low _ (by omega) (by omega)]; omega
    have hS3 : S < 131072 := by omega
    have hS4 : Hid (S = dg A k + 65536 - dg B k - cy) := hS
    clear hS
    by_cases hgo : k < la
    · have hM64 : k ≤ 64 := by omega
      have hst := minus_step (a := dg A) (b := dg B) hOl hinv.out hcy hlB hS4.out hlA
      have HST : Hid _ := hst
      clear hst
      go_wp2
      go_region_held3 (fun w' => w'.cell? ⟨w.heap.size, 0, none⟩ = some (.bool na) ∧ w'.cell? ⟨w.heap.size, 1, none⟩ = some (.slice ao la ca) ∧ w'.cell? ⟨w.heap.size + 1, 0, none⟩ = some (.bool nb) ∧ w'.cell? ⟨w.heap.size + 1, 1, none⟩ = some (.slice bo lb cb)) (go_keep)
        (first
          | (go_at_call_of 48 (Value.agg #[Value.bool na, Value.slice ao la ca]); refine (digit_at na ao la ca A k _ ?_ (by omega)).mono ?_; exact hA.below (Nat.le_refl _) (by first | exact hbw | exact hbw1 | exact hbw2 _); rintro e w' ⟨rfl, rfl⟩)
          | (go_at_call_of 48 (Value.agg #[Value.bool nb, Value.slice bo lb cb]); refine (digit_at nb bo lb cb B k _ ?_ (by omega)).mono ?_; exact hB.below (Nat.le_refl _) (by first | exact hbw | exact hbw1 | exact hbw2 _); rintro e w' ⟨rfl, rfl⟩))
      go_wp2_with (at_builtin; refine wp_push ((w.alloc (.cells #[.bool na, .slice ao la ca] 59)).alloc (.cells #[.bool nb, .slice bo lb cb] 59)) _ (w.heap.size + 2) (w.heap.size + 2) rfl (.tmp 26) (.tmp 29) rfl _ k O rfl (wr.heap.size + 1 + 1) (S % 65536) _ rfl (owns_new3 hown _ _ _) (cell_new3 _ _ _ _ _) (by omega) (size_new3 hsz _ _ _) (by omega) (below_new3 hnx hsz _ _ _) (Nat.le_refl _) ?_; intro v' w1 hown' hnx')
      go_roundw
      case rel =>
        go_light
        obtain ⟨h1, h2, h3⟩ := HST.out
        exact ⟨k + 1, 1 - S / 65536, O ++ [S % 65536], by go_num, by go_num, h2, by rw [List.length_append, hOl]; rfl, small_snoc hOs (by omega), hown', h1, hgo, hnx'⟩
      case measure => simp [intOf]; omega
    · obtain rfl : k = la := by omega
      obtain ⟨ro, cr, rfl, hR⟩ := dg_of_owns hown hOs (by omega)
      have hv : Hid (val O = val A - val B) := by
        refine minus_end (c := cy) (by rw [hOl, hA.eqlen]) hOs (by rw [hA.eqlen, hB.eqlen]; exact hb) hle.out hcy ?_
        rw [hA.eqlen]
        exact hinv.out
      clear hinv
      go_wp2
      go_ret
      exact ⟨ro, k, cr, O, rfl, hR, hv.out, hbw⟩

/-- the answer of Size -/
def cmpN (a b : Nat) : Int := if a < b then -1 else if b < a then 1 else 0

theorem two_new {B : Nat} {W0 W : World} (h : Below B W0 W) (hB : B ≤ W.heap.size) (a b : Obj) : Below B W0 ((W.alloc a).alloc b).drew := ((h.alloc hB _).alloc (by simp; omega) _).drew
theorem four_new {B : Nat} {W0 W : World} (h : Below B W0 W) (hB : B ≤ W.heap.size) (a b c d : Obj) : Below B W0 ((((W.alloc a).alloc b).alloc c).alloc d).drew.drew :=
  ((((h.alloc hB _).alloc (by simp; omega) _).alloc (by simp; omega) _).alloc (by simp; omega) _).drew.drew

set_option maxHeartbeats 4000000 in
theorem size_at (na nb : Bool) (ao bo : Option Addr) (la ca lb cb : Nat) (A B : List Nat) (w : World) (hA : Dg w ao la ca A) (hB : Dg w bo lb cb B) :
    Calls Try.prog 49 #[.agg #[.bool na, .slice ao la ca], .agg #[.bool nb, .slice bo lb cb]] w fun e w' => e = .returned (.int .i64 (cmpN (val A) (val B))) ∧ Below w.heap.size w w' := by
  have hcA := hA.lecap
  have hmA := hA.lemax
  have hmA' := hA.lelen
  have hcB := hB.lecap
  have hmB := hB.lemax
  have hmB' := hB.lelen
  obtain ⟨M, hM⟩ : ∃ M, (la < lb ∧ lb ≤ M ∧ M ≤ lb) ∨ (¬ la < lb ∧ la ≤ M ∧ M ≤ la) := ⟨max la lb, by omega⟩
  have hMA : Hid (V (dg A) M = val A) := val_at (by rw [hA.eqlen]; omega)
  have hMB : Hid (V (dg B) M = val B) := val_at (by rw [hB.eqlen]; omega)
  rcases hM with ⟨hll, hm1, hm2⟩ | ⟨hll, hm1, hm2⟩
  all_goals
    go_enter Try.func49, Try.ntmps49
    go_wp2
    go_loopw [5] (fun i wr => ∃ n : Nat, n ≤ M ∧ i = .int .i64 ((n : Int) - 1) ∧ Hid (∀ j, n ≤ j → j < M → dg A j = dg B j) ∧
        Below (w.heap.size + 2) ((w.alloc (.cells #[.bool na, .slice ao la ca] 59)).alloc (.cells #[.bool nb, .slice bo lb cb] 59)) wr)
      (fun i _ => (intOf i + 1).toNat)
    case atStart => exact ⟨M, Nat.le_refl _, by go_num, (fun j h1 h2 => by omega), Below.refl _ _⟩
    case round =>
      obtain ⟨n, hn, rfl, hinv, hnx⟩ := hrel
      have c0 : wr.cell? ⟨w.heap.size, 0, none⟩ = some (.bool na) := by rw [hnx.cell (by simp)]; simp
      have c1 : wr.cell? ⟨w.heap.size, 1, none⟩ = some (.slice ao la ca) := by rw [hnx.cell (by simp)]; simp
      have c2 : wr.cell? ⟨w.heap.size + 1, 0, none⟩ = some (.bool nb) := by rw [hnx.cell (by simp)]; simp
      have c3 : wr.cell? ⟨w.heap.size + 1, 1, none⟩ = some (.slice bo lb cb) := by rw [hnx.cell (by simp)]; simp
      have hsz : w.heap.size + 2 ≤ wr.heap.size := by have := hnx.size; simp at this; omega
      have hbw : Below w.heap.size w wr := (((Below.refl _ _).alloc (Nat.le_refl _) _).alloc (by simp) _).trans (hnx.mono (by omega))
      have hbw1 : Below w.heap.size w wr.drew := hbw.drew
      have hbw2 : ∀ o, Below w.heap.size w (wr.alloc o).drew := fun o => (hbw.alloc (by omega) o).drew
      have hbw3 : ∀ o p, Below w.heap.size w ((wr.alloc o).alloc p).drew.drew := fun o p => (two_new hbw (by omega) o p).drew
      have hbw4 : ∀ o p q, Below w.heap.size w (((wr.alloc o).alloc p).alloc q).drew.drew := fun o p q => (below_new3 hbw (by omega) o p q).drew
      have hSx : ∀ w', Below (w.heap.size + 2) ((w.alloc (.cells #[.bool na, .slice ao la ca] 59)).alloc (.cells #[.bool nb, .slice bo lb cb] 59)) w' → (w'.cell? ⟨w.heap.size, 0, none⟩ = some (.bool na) ∧ w'.cell? ⟨w.heap.size, 1, none⟩ = some (.slice ao la ca) ∧ w'.cell? ⟨w.heap.size + 1, 0, none⟩ = some (.bool nb) ∧ w'.cell? ⟨w.heap.size + 1, 1, none⟩ = some (.slice bo lb cb)) := fun w' h => by
        refine ⟨?_, ?_, ?_, ?_⟩ <;> (rw [h.cell (by simp)]; simp)
      have g1 := hnx.drew
      have g2 := fun o => (hnx.alloc hsz o).drew
      have g3 := fun o p => two_new hnx hsz o p
      have g3' := fun o p => (two_new hnx hsz o p).drew
      have g4 := fun o p q => (below_new3 hnx hsz o p q).drew
      have g5 := fun o p q r => four_new hnx hsz o p q r
      rcases n with _ | m
      · have hv : Hid (cmpN (val A) (val B) = 0) := by
          have e : val A = val B := by rw [← hMA.out, ← hMB.out]; exact V_congr M fun i hi => hinv.out i (by omega) hi
          show cmpN (val A) (val B) = 0
          unfold cmpN; rw [e]; simp
        go_wp2
        go_ret
        exact ⟨congrArg (fun x => Ending.returned (.int .i64 x)) hv.out.symm, hbw⟩
      · rw [show ((m + 1 : Nat) : Int) - 1 = (m : Int) from by omega]
        have hlA := dg_lt hA.small m
        have hlB := dg_lt hB.small m
        rcases (show dg A m < dg B m ∨ (¬ dg A m < dg B m ∧ dg B m < dg A m) ∨ (¬ dg A m < dg B m ∧ ¬ dg B m < dg A m) by omega) with hc | ⟨hc, hc'⟩ | ⟨hc, hc'⟩
        · have hv : Hid (cmpN (val A) (val B) = -1) := by
            have e := less_at (f := dg A) (g := dg B) (fun i => dg_lt hA.small i) (k := m) (L := M) (by omega) (fun i h1 h2 => hinv.out i (by omega) h2) hc
            rw [hMA.out, hMB.out] at e
            show cmpN (val A) (val B) = -1
            unfold cmpN; rw [if_pos e]
          go_wp2
          go_region_held3 (fun w' => w'.cell? ⟨w.heap.size, 0, none⟩ = some (.bool na) ∧ w'.cell? ⟨w.heap.size, 1, none⟩ = some (.slice ao la ca) ∧ w'.cell? ⟨w.heap.size + 1, 0, none⟩ = some (.bool nb) ∧ w'.cell? ⟨w.heap.size + 1, 1, none⟩ = some (.slice bo lb cb)) (first | exact hSx _ g1 | exact hSx _ (g2 _) | exact hSx _ (g3 _ _) | exact hSx _ (g3' _ _) | exact hSx _ (g4 _ _ _) | exact hSx _ (g5 _ _ _ _))
            (first
              | (go_at_call_of 48 (Value.agg #[Value.bool na, Value.slice ao la ca]); refine (digit_at na ao la ca A m _ ?_ (by omega)).mono ?_; exact hA.below (Nat.le_refl _) (by first | exact hbw1 | exact hbw2 _ | exact hbw3 _ _ | exact hbw4 _ _ _); rintro e w' ⟨rfl, rfl⟩)
              | (go_at_call_of 48 (Value.agg #[Value.bool nb, Value.slice bo lb cb]); refine (digit_at nb bo lb cb B m _ ?_ (by omega)).mono ?_; exact hB.below (Nat.le_refl _) (by first | exact hbw1 | exact hbw2 _ | exact hbw3 _ _ | exact hbw4 _ _ _); rintro e w' ⟨rfl, rfl⟩))
          go_wp2
          go_ret
          exact ⟨congrArg (fun x => Ending.returned (.int .i64 x)) hv.out.symm, two_new hbw (by omega) _ _⟩
        · have hv : Hid (cmpN (val A) (val B) = 1) := by
            have e := less_at (f := dg B) (g := dg A) (fun i => dg_lt hB.small i) (k := m) (L := M) (by omega) (fun i h1 h2 => (hinv.out i (by omega) h2).symm) hc'
            rw [hMA.out, hMB.out] at e
            show cmpN (val A) (val B) = 1
            unfold cmpN; rw [if_neg (by omega), if_pos e]
          go_wp2
          go_region_held3 (fun w' => w'.cell? ⟨w.heap.size, 0, none⟩ = some (.bool na) ∧ w'.cell? ⟨w.heap.size, 1, none⟩ = some (.slice ao la ca) ∧ w'.cell? ⟨w.heap.size + 1, 0, none⟩ = some (.bool nb) ∧ w'.cell? ⟨w.heap.size + 1, 1, none⟩ = some (.slice bo lb cb)) (first | exact hSx _ g1 | exact hSx _ (g2 _) | exact hSx _ (g3 _ _) | exact hSx _ (g3' _ _) | exact hSx _ (g4 _ _ _) | exact hSx _ (g5 _ _ _ _))
            (first
              | (go_at_call_of 48 (Value.agg #[Value.bool na, Value.slice ao la ca]); refine (digit_at na ao la ca A m _ ?_ (by omega)).mono ?_; exact hA.below (Nat.le_refl _) (by first | exact hbw1 | exact hbw2 _ | exact hbw3 _ _ | exact hbw4 _ _ _); rintro e w' ⟨rfl, rfl⟩)
              | (go_at_call_of 48 (Value.agg #[Value.bool nb, Value.slice bo lb cb]); refine (digit_at nb bo lb cb B m _ ?_ (by omega)).mono ?_; exact hB.below (Nat.le_refl _) (by first | exact hbw1 | exact hbw2 _ | exact hbw3 _ _ | exact hbw4 _ _ _); rintro e w' ⟨rfl, rfl⟩))
          go_wp2
          go_region_held3 (fun w' => w'.cell? ⟨w.heap.size, 0, none⟩ = some (.bool na) ∧ w'.cell? ⟨w.heap.size, 1, none⟩ = some (.slice ao la ca) ∧ w'.cell? ⟨w.heap.size + 1, 0, none⟩ = some (.bool nb) ∧ w'.cell? ⟨w.heap.size + 1, 1, none⟩ = some (.slice bo lb cb)) (first | exact hSx _ g1 | exact hSx _ (g2 _) | exact hSx _ (g3 _ _) | exact hSx _ (g3' _ _) | exact hSx _ (g4 _ _ _) | exact hSx _ (g5 _ _ _ _))
            (first
              | (go_at_call_of 48 (Value.agg #[Value.bool na, Value.slice ao la ca]); refine (digit_at na ao la ca A m _ ?_ (by omega)).mono ?_; exact hA.below (Nat.le_refl _) (by first | exact hbw1 | exact hbw2 _ | exact hbw3 _ _ | exact hbw4 _ _ _); rintro e w' ⟨rfl, rfl⟩)
              | (go_at_call_of 48 (Value.agg #[Value.bool nb, Value.slice bo lb cb]); refine (digit_at nb bo lb cb B m _ ?_ (by omega)).mono ?_; exact hB.below (Nat.le_refl _) (by first | exact hbw1 | exact hbw2 _ | exact hbw3 _ _ | exact hbw4 _ _ _); rintro e w' ⟨rfl, rfl⟩))
          go_wp2
          go_ret
          exact ⟨congrArg (fun x => Ending.returned (.int .i64 x)) hv.out.symm, four_new hbw (by omega) _ _ _ _⟩
        · go_wp2
          go_region_held3 (fun w' => w'.cell? ⟨w.heap.size, 0, none⟩ = some (.bool na) ∧ w'.cell? ⟨w.heap.size, 1, none⟩ = some (.slice ao la ca) ∧ w'.cell? ⟨w.heap.size + 1, 0, none⟩ = some (.bool nb) ∧ w'.cell? ⟨w.heap.size + 1, 1, none⟩ = some (.slice bo lb cb)) (first | exact hSx _ g1 | exact hSx _ (g2 _) | exact hSx _ (g3 _ _) | exact hSx _ (g3' _ _) | exact hSx _ (g4 _ _ _) | exact hSx _ (g5 _ _ _ _))
            (first
              | (go_at_call_of 48 (Value.agg #[Value.bool na, Value.slice ao la ca]); refine (digit_at na ao la ca A m _ ?_ (by omega)).mono ?_; exact hA.below (Nat.le_refl _) (by first | exact hbw1 | exact hbw2 _ | exact hbw3 _ _ | exact hbw4 _ _ _); rintro e w' ⟨rfl, rfl⟩)
              | (go_at_call_of 48 (Value.agg #[Value.bool nb, Value.slice bo lb cb]); refine (digit_at nb bo lb cb B m _ ?_ (by omega)).mono ?_; exact hB.below (Nat.le_refl _) (by first | exact hbw1 | exact hbw2 _ | exact hbw3 _ _ | exact hbw4 _ _ _); rintro e w' ⟨rfl, rfl⟩))
          go_wp2
          go_region_held3 (fun w' => w'.cell? ⟨w.heap.size, 0, none⟩ = some (.bool na) ∧ w'.cell? ⟨w.heap.size, 1, none⟩ = some (.slice ao la ca) ∧ w'.cell? ⟨w.heap.size + 1, 0, none⟩ = some (.bool nb) ∧ w'.cell? ⟨w.heap.size + 1, 1, none⟩ = some (.slice bo lb cb)) (first | exact hSx _ g1 | exact hSx _ (g2 _) | exact hSx _ (g3 _ _) | exact hSx _ (g3' _ _) | exact hSx _ (g4 _ _ _) | exact hSx _ (g5 _ _ _ _))
            (first
              | (go_at_call_of 48 (Value.agg #[Value.bool na, Value.slice ao la ca]); refine (digit_at na ao la ca A m _ ?_ (by omega)).mono ?_; exact hA.below (Nat.le_refl _) (by first | exact hbw1 | exact hbw2 _ | exact hbw3 _ _ | exact hbw4 _ _ _); rintro e w' ⟨rfl, rfl⟩)
              | (go_at_call_of 48 (Value.agg #[Value.bool nb, Value.slice bo lb cb]); refine (digit_at nb bo lb cb B m _ ?_ (by omega)).mono ?_; exact hB.below (Nat.le_refl _) (by first | exact hbw1 | exact hbw2 _ | exact hbw3 _ _ | exact hbw4 _ _ _); rintro e w' ⟨rfl, rfl⟩))
          go_wp2
          go_roundw
          case rel =>
            go_light
            exact ⟨m, by omega, rfl, (fun j h1 h2 => by
              by_cases e : j = m
              · subst e; omega
              · exact hinv.out j (by omega) h2), four_new hnx hsz _ _ _ _⟩
          case measure => simp [intOf]
end Go.Proofs.Ytkanjgphmafjbaa.Wd
