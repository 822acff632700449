/- The laws' small, worked. -/
import Derived.Test.YtiapkblebbcfbaaNmU
namespace Go.Proofs.Ytiapkblebbcfbaa.Gl
open Go.RowKit
set_option linter.unusedVariables false
set_option linter.unusedSimpArgs false

def Sml (L : List Int) : Prop := ∀ x ∈ L, -999 ≤ x ∧ x ≤ 999
theorem sml_set {L : List Int} (h : Sml L) (k : Nat) {z : Int} (hz : -999 ≤ z ∧ z ≤ 999) : Sml (L.set k z) := fun x hx => by
  rcases List.mem_or_eq_of_mem_set hx with h1 | rfl
  · exact h x h1
  · exact hz
theorem tmod_small (z : Int) : -999 ≤ z.tmod 1000 ∧ z.tmod 1000 ≤ 999 := by
  have := Chk.tmod_abs z 1000 (by decide)
  omega
set_option maxHeartbeats 2000000 in
theorem small_at (ao : Option Addr) (n c m : Nat) (zs : List Int) (w : World) (h : RdZ w ao n c zs) (hm : m ≤ 1000) :
    Calls Try.prog 12 #[.slice ao n c, .int .i64 m] w fun e w' => ∃ g L, e = .returned (.slice (some ⟨g, 0, none⟩) m m) ∧ RdZ w' (some ⟨g, 0, none⟩) m m L ∧ Sml L ∧ Below w.heap.size w w' := by
  obtain ⟨ii, hi, hi0, hi1, hi2⟩ := info_parts Try.infoI64
  have hcap := h.lecap
  have hmax := h.lemax
  go_enter Try.func12, Try.ntmps12
  go_wp2_with (at_make; refine wpList_make_full _ rfl _ _ 24 rfl w.heap.size 2 ii (.int .i64 0) 1 Try.underlying24 hi hi0 hi1 _ _ _ _ m rfl rfl rfl rfl (by rw [hi2]; omega) (by unfold maxLen; omega) (Nat.le_refl _) ?_; intro w2 hown2 hg2; rw [made_zeros] at hown2)
  have hB2 : Below w.heap.size w w2 := (Below.refl _ _).grown hg2 (Nat.le_refl _) (fun k h => by cases h)
  go_loopw [11] (fun i wr => ∃ k : Nat, k ≤ m ∧ i = .int .i64 k ∧ (∃ L, Sml L ∧ L.length = m ∧ wr.ownsRow w.heap.size 2 1 (.slice (some ⟨w.heap.size, 0, none⟩) m m) m (cellsZ L)) ∧ Below w.heap.size w wr) (fun i _ => m - (intOf i).toNat)
  case atStart => exact ⟨0, Nat.zero_le _, rfl, ⟨_, (fun x hx => by have := List.eq_of_mem_replicate hx; omega), List.length_replicate .., hown2⟩, hB2⟩
  case round =>
    clear hg2 hown2 hB2
    obtain ⟨k, hk, rfl, ⟨L, hS, hl, hO⟩, hB⟩ := hrel
    by_cases hlt : k < m
    · by_cases hkn : k < n
      · obtain ⟨g, o, rfl, hc⟩ := h.cell k hkn
        have hc' := (hB.cell (World.block_lt_of_cell? _ _ hc)).trans hc
        have hts := tmod_small (zs.getD k 0)
        generalize zs.getD k 0 = z at hc' hts hc
        have hoc := ownsZ_cell hO k hlt
        have hof := hO.frozenAt k
        have hO2 := (hO.stored k (.int .i64 (z.tmod 1000))).1
        rw [cells_set] at hO2
        have hS2 := mkHid (sml_set hS k hts)
        have hB2 := hB.setCell (p := ⟨w.heap.size, k, none⟩) (Nat.le_refl _) (.int .i64 (z.tmod 1000))
        have hw : IntKind.i64.wrap (z.tmod 1000) = z.tmod 1000 := by rw [IntKind.wrap_i64]; omega
        clear hc hS
        go_wp2
        go_roundw
        case rel => exact ⟨k + 1, by omega, by go_num, ⟨_, hS2, by rw [List.length_set]; exact hl, hO2⟩, hB2⟩
        case measure => simp [intOf]; omega
      · have hkn' : decide ((k : Int) < (n : Int)) = false := decide_eq_false (by omega)
        go_wp2
        go_roundw
        case rel => exact ⟨k + 1, by omega, by go_num, ⟨_, hS, hl, hO⟩, hB⟩
        case measure => simp [intOf]; omega
    · obtain rfl : k = m := by omega
      go_wp2
      go_ret
      exact ⟨_, L, rfl, rdz_of_own2 hO, hS, hB⟩
def dotz : List Int → List Int → Int
  | c :: cs, v :: vs => c * v + dotz cs vs
  | _, _ => 0
theorem dotz_take : ∀ (cs vs : List Int) (k : Nat), k < cs.length → k < vs.length → dotz (cs.take (k + 1)) (vs.take (k + 1)) = dotz (cs.take k) (vs.take k) + cs.getD k 0 * vs.getD k 0
  | c :: cs, v :: vs, 0, _, _ => by simp [dotz]
  | c :: cs, v :: vs, k + 1, h, h' => by
    have := dotz_take cs vs k (by simpa using h) (by simpa using h')
    simp only [List.take_succ_cons, dotz, this]
    simp
    omega
theorem dot_congr (ev ev' : ByteArray → Int) : ∀ (ns : List ByteArray) (cs : List Int), (∀ x ∈ ns, ev x = ev' x) → dot ev ns cs = dot ev' ns cs
  | [], _, _ => by rw [dot, dot]; all_goals simp
  | n :: ns, [], _ => by rw [dot, dot]; all_goals simp
  | n :: ns, c :: cs, h => by rw [dot, dot, h n (List.mem_cons_self ..), dot_congr ev ev' ns cs (fun x hx => h x (List.mem_cons_of_mem _ hx))]
theorem dot_dotz : ∀ (ns : List ByteArray) (cs vs : List Int), ns.Nodup → cs.length = ns.length → vs.length = ns.length → dot (fun x => cof x ns vs) ns cs = dotz cs vs
  | [], [], [], _, _, _ => by rw [dot, dotz]; all_goals simp
  | n :: ns, c :: cs, v :: vs, hd, hc, hv => by
    rw [List.nodup_cons] at hd
    rw [dot, dotz, ← dot_dotz ns cs vs hd.2 (by simpa using hc) (by simpa using hv)]
    have e : cof n (n :: ns) (v :: vs) = v := by rw [cof, if_pos (by simp)]
    rw [e]
    congr 1
    refine dot_congr _ _ ns cs (fun x hx => ?_)
    rw [cof, if_neg]
    intro k
    exact hd.1 (by rw [(eqS_iff n x).1 k]; exact hx)
/-- what worked answers -/
def WkR (k0 : Int) (cs vs : List Int) (w : World) (e : Ending) (w' : World) : Prop := ∃ (v : Int) (ok : Bool), e = .returned (.tuple #[.int .i64 v, .bool ok]) ∧ (ok = true → v = k0 + dotz cs vs) ∧ w = w'
set_option maxHeartbeats 4000000 in
theorem worked_at (ao bo : Option Addr) (n c m d : Nat) (cs vs : List Int) (k0 : Int) (w : World) (h : RdZ w ao n c cs) (h2 : RdZ w bo m d vs) (hmn : m = n) (hv : Sml vs) :
    Calls Try.prog 14 #[.slice ao n c, .slice bo m d, .int .i64 k0] w (WkR k0 cs vs w) := by
  subst hmn
  have hcap := h.lecap
  have hmax := h.lemax
  have hcap2 := h2.lecap
  have hmax2 := h2.lemax
  have HL : Hid (cs.length = m) := h.eqlen
  have HL2 : Hid (vs.length = m) := h2.eqlen
  have HV := mkHid hv
  clear hv
  go_enter Try.func14, Try.ntmps14
  go_wp2
  go_loop [2, 12] (fun K i => ∃ (j : Nat) (kk : Int), j ≤ m ∧ i = .int .i64 j ∧ K = .int .i64 kk ∧ Hid (kk = k0 + dotz (cs.take j) (vs.take j))) (fun K i => m - (intOf i).toNat)
  case atStart => exact ⟨0, k0, Nat.zero_le _, rfl, rfl, by show _ = _; simp [dotz]⟩
  case round =>
    obtain ⟨j, kk, hj, rfl, rfl, hkk⟩ := hrel
    by_cases hlt : j < m
    · obtain ⟨g, o, rfl, hc⟩ := h.cell j hlt
      obtain ⟨g', o', rfl, hc'⟩ := h2.cell j hlt
      have HD := mkHid (dotz_take cs vs j (by rw [HL.out]; exact hlt) (by rw [HL2.out]; exact hlt))
      have hvb : -999 ≤ vs.getD j 0 ∧ vs.getD j 0 ≤ 999 := HV.out _ (by rw [getD_of (by rw [HL2.out]; exact hlt)]; exact List.getElem_mem _)
      generalize cs.getD j 0 = z at hc HD
      generalize vs.getD j 0 = v at hc' HD hvb
      by_cases c1 : 1073741824 ≤ z
      · have d1 : decide (1073741824 ≤ z) = true := decide_eq_true c1
        go_wp2
        go_ret2
        exact ⟨_, false, rfl, (fun e => by cases e), rfl⟩
      · have d1 : decide (1073741824 ≤ z) = false := decide_eq_false c1
        by_cases c2 : z ≤ -1073741824
        · have d2 : decide (z ≤ -1073741824) = true := decide_eq_true c2
          go_wp2
          go_ret2
          exact ⟨_, false, rfl, (fun e => by cases e), rfl⟩
        · have d2 : decide (z ≤ -1073741824) = false := decide_eq_false c2
          by_cases c3 : 1125899906842624 ≤ kk
          · have d3 : decide (1125899906842624 ≤ kk) = true := decide_eq_true c3
            go_wp2
            go_ret2
            exact ⟨_, false, rfl, (fun e => by cases e), rfl⟩
          · have d3 : decide (1125899906842624 ≤ kk) = false := decide_eq_false c3
            by_cases c4 : kk ≤ -1125899906842624
            · have d4 : decide (kk ≤ -1125899906842624) = true := decide_eq_true c4
              go_wp2
              go_ret2
              exact ⟨_, false, rfl, (fun e => by cases e), rfl⟩
            · have d4 : decide (kk ≤ -1125899906842624) = false := decide_eq_false c4
              have hp : -1073741824000 ≤ z * v ∧ z * v ≤ 1073741824000 := by
                have h1 : (z * v).natAbs ≤ 1073741824 * 1000 := by
                  rw [Int.natAbs_mul]
                  exact Nat.mul_le_mul (by omega) (by omega)
                omega
              generalize hzv : z * v = zv at hp HD
              have w1 : wrap64 zv = zv := by unfold wrap64; omega
              have w2 : wrap64 (kk + zv) = kk + zv := by unfold wrap64; omega
              have HK : Hid (wrap64 (kk + wrap64 (z * v)) = k0 + dotz (cs.take (j + 1)) (vs.take (j + 1))) := by show _ = _; rw [hzv, w1, w2, HD.out, hkk.out]; omega
              clear hzv hp hvb HD hkk w1 w2
              go_wp2
              go_roundw
              case rel => exact ⟨j + 1, _, by omega, by go_num, rfl, HK⟩
              case measure => simp [intOf]; omega
    · obtain rfl : j = m := by omega
      have HK : Hid (kk = k0 + dotz cs vs) := by
        show _ = _
        rw [hkk.out, List.take_of_length_le (by rw [HL.out]; exact Nat.le_refl _), List.take_of_length_le (by rw [HL2.out]; exact Nat.le_refl _)]
      go_wp2
      go_ret2
      exact ⟨kk, true, rfl, fun _ => HK.out, rfl⟩
end Go.Proofs.Ytiapkblebbcfbaa.Gl
