/- The document's plus. -/
import Derived.Test.YtiapkblebbcfbaaGreatNmCd
import Derived.Test.YtiapkblebbcfbaaGreatPsE
import Derived.Test.YtiapkblebbcfbaaGreatSums
import Derived.Deep.DeepCutAuto
import Derived.Deep.RegionHeld3
namespace Go.Proofs.YtiapkblebbcfbaaGreat.Gl
open Go Go.RowKit
set_option linter.unusedVariables false
set_option linter.unusedSimpArgs false

set_option maxRecDepth 100000 in
set_option maxHeartbeats 40000000 in
theorem rplus_at (p q : Sm) (no co no' co' : Option Addr) (n c m d n' c' m' d' : Nat) (less : Bool) (w : World) (h1 : RdS w no n c p.ns) (h2 : RdZ w co m d p.cs) (k1 : RdS w no' n' c' q.ns) (k2 : RdZ w co' m' d' q.cs) (hn : n ≤ 1000) (hn' : n' ≤ 1000) (hp : p.fits = true) (hq : q.fits = true) (hmn : m = n) (hmn' : m' = n') :
    Calls Tryz.prog 25 #[.agg (sum4 no co n c m d p.k 0), .agg (sum4 no' co' n' c' m' d' q.k 0), .bool less] w fun e w' => ∃ v, e = .returned v ∧ DSumO w.heap.size w' (mkS (cmb (bop less) p q)) v ∧ Below w.heap.size w w' := by
  obtain rfl := hmn.symm
  obtain rfl := hmn'.symm
  have hB1 := bal w (.cells (sum4 no co n c n d p.k 0) 32)
  have hR1 := rb_new w (sum4 no co n c n d p.k 0) 32
  have hB2 := bal (w.alloc (.cells (sum4 no co n c n d p.k 0) 32)) (.cells (sum4 no' co' n' c' n' d' q.k 0) 32)
  have hR2 := rb_new (w.alloc (.cells (sum4 no co n c n d p.k 0) 32)) (sum4 no' co' n' c' n' d' q.k 0) 32
  have hB3 := bal ((w.alloc (.cells (sum4 no co n c n d p.k 0) 32)).alloc (.cells (sum4 no' co' n' c' n' d' q.k 0) 32)) (.cells z4 32)
  have hR3 := rb_new ((w.alloc (.cells (sum4 no co n c n d p.k 0) 32)).alloc (.cells (sum4 no' co' n' c' n' d' q.k 0) 32)) z4 32
  have hR1' := (hR1.keep hB2).keep hB3
  have hR2' := hR2.keep hB3
  have hB13 := bt2 (bt2 hB1 hB2) hB3
  rw [show (w.alloc (.cells (sum4 no co n c n d p.k 0) 32)).heap.size = w.heap.size + 1 by simp] at hR2'
  rw [show ((w.alloc (.cells (sum4 no co n c n d p.k 0) 32)).alloc (.cells (sum4 no' co' n' c' n' d' q.k 0) 32)).heap.size = w.heap.size + 2 by simp] at hR3
  have hw3 : (((w.alloc (.cells (sum4 no co n c n d p.k 0) 32)).alloc (.cells (sum4 no' co' n' c' n' d' q.k 0) 32)).alloc (.cells z4 32)).heap.size = w.heap.size + 3 := by simp
  clear hB1 hB2 hB3 hR1 hR2
  go_enter Tryz.func25, Tryz.ntmps25
  go_wp2_with (fail)
  generalize (((w.alloc (.cells (sum4 no co n c n d p.k 0) 32)).alloc (.cells (sum4 no' co' n' c' n' d' q.k 0) 32)).alloc (.cells z4 32)) = w3 at hR1' hR2' hR3 hB13 hw3 ⊢
  have r0 : w3.cell? ⟨w.heap.size, 0, none⟩ = some (.slice no n c) := (txcell (vs := sum4 no co n c n d p.k 0) hR1' 0 _ rfl).1
  have r1 : w3.cell? ⟨w.heap.size + 1, 0, none⟩ = some (.slice no' n' c') := (txcell (vs := sum4 no' co' n' c' n' d' q.k 0) hR2' 0 _ rfl).1
  have hD : Below w3.heap.size w3 w3.drew := (Below.refl _ _).drew
  have CE : Hid (∀ y : World, Below w3.heap.size w3 y → y.cell? ⟨w.heap.size, 0, none⟩ = some (.slice no n c) ∧ y.cell? ⟨w.heap.size + 1, 0, none⟩ = some (.slice no' n' c')) := fun y hy => ⟨(txcell (vs := sum4 no co n c n d p.k 0) (hR1'.keep hy) 0 _ rfl).1, (txcell (vs := sum4 no' co' n' c' n' d' q.k 0) (hR2'.keep hy) 0 _ rfl).1⟩
  have NA : Hid (∀ y : World, Below w3.heap.size w3 y → RdS y no n c p.ns) := fun y hy => h1.below (Nat.le_refl _) (bt2 hB13 hy)
  have NB : Hid (∀ y : World, Below w3.heap.size w3 y → RdS y no' n' c' q.ns) := fun y hy => k1.below (Nat.le_refl _) (bt2 hB13 hy)
  go_cut [7] from 13 to 21 (fun v7 wx => ∃ p7 a7 l7 c7, v7 = .pointer (some ⟨p7, 0, none⟩) ∧ w3.heap.size ≤ p7 ∧ Rb wx p7 (sum4 a7 none l7 c7 0 0 0 0) 32 ∧ RdS wx a7 l7 c7 (togL (p.ns ++ q.ns)) ∧ Bk wx a7 9 ∧ Below w3.heap.size w3 wx)
  case first =>
    have e1 : (w3.alloc (.cells #[] 9)).drew.ownsRow w3.heap.size 9 1 (.slice (some ⟨w.heap.size + 3, 0, none⟩) 0 0) 0 [] := by
      rw [← hw3]
      exact (World.ownsRow_made _ _ _ (Nat.le_refl _) (by unfold maxLen; omega) (by simp)).drew
    have e2 : ((w3.alloc (.cells #[] 9)).alloc (.cells z4 32)).drew.ownsRow w3.heap.size 9 1 (.slice (some ⟨w.heap.size + 3, 0, none⟩) 0 0) 0 [] := by
      rw [← hw3]
      exact ((World.ownsRow_made _ _ _ (Nat.le_refl _) (by unfold maxLen; omega) (by simp)).alloc _).drew
    have e3 : ((w3.alloc (.cells z4 32)).alloc (.cells #[] 9)).drew.ownsRow w3.heap.size 9 1 (.slice (some ⟨w.heap.size + 3 + 1, 0, none⟩) 0 0) 0 [] := by
      rw [← hw3, show w3.heap.size + 1 = (w3.alloc (.cells z4 32)).heap.size by simp]
      exact (World.ownsRow_made _ _ _ (by simp) (by unfold maxLen; omega) (by simp)).drew
    have b1 : Below w3.heap.size w3 (w3.alloc (.cells #[] 9)).drew := (bal w3 _).drew
    have b2 : Below w3.heap.size w3 ((w3.alloc (.cells #[] 9)).alloc (.cells z4 32)).drew := (bt2 (bal w3 _) (bal _ _)).drew
    have b4 : Below w3.heap.size w3 (w3.alloc (.cells z4 32)).drew := (bal w3 _).drew
    have b3 : Below w3.heap.size w3 ((w3.alloc (.cells z4 32)).alloc (.cells #[] 9)).drew := (bt2 (bal w3 _) (bal _ _)).drew
    have rbA : Rb ((w3.alloc (.cells z4 32)).alloc (.cells #[] 9)).drew (w.heap.size + 3) z4 32 := by
      rw [← hw3]
      exact ((rb_new w3 z4 32).keep (bal _ _)).keep (Below.refl _ _).drew
    have rbB : Rb ((w3.alloc (.cells #[] 9)).alloc (.cells z4 32)).drew (w.heap.size + 3 + 1) z4 32 := by
      rw [← hw3, show w3.heap.size + 1 = (w3.alloc (.cells #[] 9)).heap.size by simp]
      exact (rb_new _ z4 32).keep (Below.refl _ _).drew
    have TG : Hid (∀ (y : World) a l c, RdS y a l c (p.ns ++ q.ns) → l ≤ 2000 → Calls Tryz.prog 46 #[.slice a l c] y fun e w' => ∃ a' l' c', e = .returned (.slice a' l' c') ∧ RdS w' a' l' c' (togL (p.ns ++ q.ns)) ∧ Bk w' a' 9 ∧ Below y.heap.size y w') := fun y a l c hR hl => (rtogether_at a l c _ y hR (by omega)).mono (by
      rintro e w' ⟨v, rfl, hO, hB⟩
      obtain ⟨a', c', rfl, hR'⟩ := rds_of_owns hO
      exact ⟨a', _, c', rfl, hR', bk_of_owns hO, hB⟩)
    go_region_held3 (fun w' => w'.cell? ⟨w.heap.size, 0, none⟩ = some (.slice no n c) ∧ w'.cell? ⟨w.heap.size + 1, 0, none⟩ = some (.slice no' n' c')) (first | exact CE.out _ hD | exact CE.out _ b1 | exact CE.out _ b4 | exact CE.out _ b2 | exact CE.out _ b3 | exact CE.out _ hB4 | exact CE.out _ (hB4.alloc hB4.size _) | exact CE.out _ hB5 | exact CE.out _ (hB5.alloc hB5.size _) | exact CE.out _ hE6 | exact CE.out _ hF6.2.2.2.2 | exact CE.out _ (hE6.alloc hE6.size _) | fail)
      (first
        | ((refine step_of rfl (op_firstS _ w3.heap.size (.tmp 13) (.tmp 15) rfl _ rfl no n c p.ns rfl (by first | exact e1 | exact e2 | exact e3) (NA.out _ (by first | exact b1 | exact b2 | exact b3)) (by simp <;> omega) (by omega) w3 (by first | exact b1 | exact b2 | exact b3) ?_); intro a4 c4 w4 hO4 hR4 hB4 hK4))
        | ((refine step_of rfl (op_joinS _ w3.heap.size (.tmp 16) (.tmp 18) rfl _ n p.ns rfl no' n' c' q.ns rfl (by first | exact hO4 | exact hO4.alloc _) (NB.out _ (by first | exact hB4 | exact hB4.alloc hB4.size _)) (by first | exact hB4.size | exact (hB4.alloc hB4.size _).size) (by omega) w3 (by first | exact hB4 | exact hB4.alloc hB4.size _) ?_); intro a5 c5 w5 hO5 hR5 hB5 hK5))
        | ((go_at_call 46; refine (TG.out _ _ _ _ (by first | exact hR5 | exact hR5.below (Nat.le_refl _) (bal _ _)) (by omega)).mono ?_; rintro e w6 ⟨a6, l6, c6, rfl, hR6, hK6, hB6⟩; have hE6 : Below w3.heap.size w3 w6 := (by first | exact bt2 hB5 hB6 | exact bt2 (hB5.alloc hB5.size _) hB6); (first | (have hz6 : Rb w6 (w.heap.size + 3) z4 32 := (hK5 _ _ _ (by decide) (hK4 _ _ _ (by decide) rbA)).keep hB6; obtain ⟨z0, y0⟩ := txcell (vs := z4) hz6 0 _ rfl; obtain ⟨z1, y1⟩ := txcell (vs := z4) hz6 1 _ rfl; obtain ⟨z2, y2⟩ := txcell (vs := z4) hz6 2 _ rfl; obtain ⟨z3, y3⟩ := txcell (vs := z4) hz6 3 _ rfl; have hF6 := fn4_old hz6 (by omega) hE6 hR6 hK6) | (have hz6 : Rb w6 (w.heap.size + 3 + 1) z4 32 := (hK5 _ _ _ (by decide) (hK4 _ _ _ (by decide) rbB)).keep hB6; obtain ⟨z0, y0⟩ := txcell (vs := z4) hz6 0 _ rfl; obtain ⟨z1, y1⟩ := txcell (vs := z4) hz6 1 _ rfl; obtain ⟨z2, y2⟩ := txcell (vs := z4) hz6 2 _ rfl; obtain ⟨z3, y3⟩ := txcell (vs := z4) hz6 3 _ rfl; have hF6 := fn4_old hz6 (by omega) hE6 hR6 hK6) | (have hz6 : Rb w6 (w4.heap.size) z4 32 := (hK5 _ _ _ (by decide) (rb_new w4 _ _)).keep hB6; obtain ⟨z0, y0⟩ := txcell (vs := z4) hz6 0 _ rfl; obtain ⟨z1, y1⟩ := txcell (vs := z4) hz6 1 _ rfl; obtain ⟨z2, y2⟩ := txcell (vs := z4) hz6 2 _ rfl; obtain ⟨z3, y3⟩ := txcell (vs := z4) hz6 3 _ rfl; have hF6 := fn4_old hz6 hB4.size hE6 hR6 hK6) | (have hz6 : Rb w6 (w5.heap.size) z4 32 := (rb_new w5 _ _).keep hB6; obtain ⟨z0, y0⟩ := txcell (vs := z4) hz6 0 _ rfl; obtain ⟨z1, y1⟩ := txcell (vs := z4) hz6 1 _ rfl; obtain ⟨z2, y2⟩ := txcell (vs := z4) hz6 2 _ rfl; obtain ⟨z3, y3⟩ := txcell (vs := z4) hz6 3 _ rfl; have hF6 := fn4_old hz6 hB5.size hE6 hR6 hK6) | (have hF6 := fn4_new hE6 hR6 hK6)))))
    all_goals (go_wp2_with fail; go_meet; exact ⟨_, _, _, _, rfl, hF6.1, hF6.2.1, hF6.2.2.1, hF6.2.2.2.1, hF6.2.2.2.2⟩)
  case rest =>
    obtain ⟨p7, a7, l7, c7, rfl, hp7, hR7, hN7, hK7, hB37⟩ := hcut
    obtain ⟨T, hT⟩ : ∃ T, togL (p.ns ++ q.ns) = T := ⟨_, rfl⟩
    rw [hT] at hN7
    have hl7 : l7 ≤ 2000 := by
      have := tog_length (p.ns ++ q.ns)
      rw [hT, hN7.eqlen, List.length_append, h1.eqlen, k1.eqlen] at this
      omega
    have HL : Hid (T.length = l7) := hN7.eqlen
    have hcc7 := hN7.lecap
    have hcm7 := hN7.lemax
    have HT := mkHid hT
    have PA := hR1'.keep hB37
    have QA := hR2'.keep hB37
    have ZA := hR3.keep hB37
    have hBw := bt2 hB13 hB37
    have hw3' := hB37.size
    have hp7s : p7 < wc.heap.size := (Array.getElem?_eq_some_iff.1 hR7).1
    have hpf := mkHid hp
    have hqf := mkHid hq
    clear hT hp hq CE NA NB r0 r1 hD hR1' hR2' hR3 hB13 hB37
    have hne0 : w.heap.size ≠ p7 := by omega
    have hne1 : w.heap.size + 1 ≠ p7 := by omega
    have hne2 : w.heap.size + 2 ≠ p7 := by omega
    have hne7 : ∀ ad, a7 = some ad → ad.block ≠ p7 := hK7.ne hR7 (by decide)
    have hneZ : ∀ ad, a7 = some ad → ad.block ≠ w.heap.size + 2 := hK7.ne ZA (by decide)
    have hpf64 : ∀ x, I64 (cof x p.ns p.cs) := fun x => cof_i64 hpf.out x
    have hqf64 : ∀ x, I64 (cof x q.ns q.cs) := fun x => cof_i64 hqf.out x
    have hpk := Sm.fits.k hpf.out
    have hqk := Sm.fits.k hqf.out
    have ADD : ∀ (x : ByteArray) (y : World), Calls Tryz.prog 47 #[.int .i64 (cof x p.ns p.cs), .int .i64 (cof x q.ns q.cs)] y fun e' w' => e' = .returned (.tuple #[.int .i64 (Wd.nOf (bop false (cof x p.ns p.cs) (cof x q.ns q.cs))), .int .i64 (Wd.eOf (bop false (cof x p.ns p.cs) (cof x q.ns q.cs)))]) ∧ Below y.heap.size y w' := fun x y => Wd.ref_add _ _ y (hpf64 x).1 (hpf64 x).2 (hqf64 x).1 (hqf64 x).2
    have SUB : ∀ (x : ByteArray) (y : World), Calls Tryz.prog 26 #[.int .i64 (cof x p.ns p.cs), .int .i64 (cof x q.ns q.cs)] y fun e' w' => e' = .returned (.tuple #[.int .i64 (Wd.nOf (bop true (cof x p.ns p.cs) (cof x q.ns q.cs))), .int .i64 (Wd.eOf (bop true (cof x p.ns p.cs) (cof x q.ns q.cs)))]) ∧ Below y.heap.size y w' := fun x y => Wd.ref_sub _ _ y (hpf64 x).1 (hpf64 x).2 (hqf64 x).1 (hqf64 x).2
    have HPF := mkHid hpf64
    have HADD := mkHid ADD
    have HSUB := mkHid SUB
    clear hpf64 hqf64 ADD SUB HPF
    cases less with
    | false =>
      go_wp2
      go_loopw [8] (fun i wr => ∃ (k : Nat) (ck : Option Addr) (dk : Nat) (e : Int), k ≤ l7 ∧ i = .int .i64 k ∧ Rb wr p7 (sum4 a7 ck l7 c7 k dk 0 e) 32 ∧ wr.ownsRow wc.heap.size 2 1 (.slice ck k dk) k (cellsZ ((us9 false p q T).take k)) ∧ Bux p7 wc wr ∧ Hid (Fit9 false p q T k e)) (fun i _ => l7 - (intOf i).toNat)
      case atStart => exact ⟨0, none, 0, 0, Nat.zero_le _, rfl, hR7, World.ownsRow_nil _ _ _ _, Bux.refl _ _, .inl ⟨rfl, fun x hx => by simp at hx⟩⟩
      case round =>
        obtain ⟨k, ck, dk, e, hk, rfl, hRk, hOk, hX, hFt⟩ := hrel
        have hBr : Below w.heap.size w wr := hBw.trans (hX.below (by omega) (by omega))
        have PB := PA.but hX hne0
        have QB := QA.but hX hne1
        have n0 : wr.cell? ⟨p7, 0, none⟩ = some (.slice a7 l7 c7) := (txcell (vs := sum4 a7 ck l7 c7 k dk 0 e) hRk 0 _ rfl).1
        by_cases hlt : k < l7
        · obtain ⟨gn, on, rfl, hxc0⟩ := hN7.cell k hlt
          have hgw := World.block_lt_of_cell? _ _ hxc0
          have hgne : gn ≠ p7 := hne7 _ rfl
          have hxc : wr.cell? ⟨gn, on + k, none⟩ = some (.string (T.getD k emp)) := by
            rw [World.cell?_of_block (hX.block gn hgw hgne)]
            exact hxc0
          have hgn : gn < wr.heap.size := Nat.lt_of_lt_of_le hgw hX.size
          have hFs := mkHid (Fit9.step hFt.out (by rw [HL.out]; exact hlt))
          have hUs := mkHid (us9_take false p q T k (by rw [HL.out]; exact hlt))
          clear hxc0 hFt
          generalize T.getD k emp = x at hxc hFs hUs
          have AD := HADD.out x
          have SB := HSUB.out x
          have HS := (Below.refl wr.heap.size wr).drew
          have hrr : ∀ y : World, Below y.heap.size y y := fun y => Below.refl _ _
          have LPb : ∀ y : World, Below wr.drew.heap.size wr.drew y → Rb y w.heap.size (sum4 no co n c n d p.k 0) 32 := fun y hy => (PB.keep (Below.refl _ _).drew).keep hy
          have LQb : ∀ y : World, Below wr.drew.heap.size wr.drew y → Rb y (w.heap.size + 1) (sum4 no' co' n' c' n' d' q.k 0) 32 := fun y hy => (QB.keep (Below.refl _ _).drew).keep hy
          have LNb : ∀ y : World, Below wr.drew.heap.size wr.drew y → Rb y p7 (sum4 (some ⟨gn, on, none⟩) ck l7 c7 k dk 0 e) 32 := fun y hy => (hRk.keep (Below.refl _ _).drew).keep hy
          have LP : ∀ y : World, Below wr.drew.heap.size wr.drew y → y.cell? ⟨w.heap.size, 0, none⟩ = some (.slice no n c) ∧ y.cell? ⟨w.heap.size, 1, none⟩ = some (.slice co n d) ∧ y.cell? ⟨w.heap.size, 2, none⟩ = some (.int .i64 p.k) ∧ y.cell? ⟨w.heap.size, 3, none⟩ = some (.int .i64 0) := fun y hy => ⟨(txcell (LPb y hy) 0 _ rfl).1, (txcell (LPb y hy) 1 _ rfl).1, (txcell (LPb y hy) 2 _ rfl).1, (txcell (LPb y hy) 3 _ rfl).1⟩
          have LQ : ∀ y : World, Below wr.drew.heap.size wr.drew y → y.cell? ⟨w.heap.size + 1, 0, none⟩ = some (.slice no' n' c') ∧ y.cell? ⟨w.heap.size + 1, 1, none⟩ = some (.slice co' n' d') ∧ y.cell? ⟨w.heap.size + 1, 2, none⟩ = some (.int .i64 q.k) ∧ y.cell? ⟨w.heap.size + 1, 3, none⟩ = some (.int .i64 0) := fun y hy => ⟨(txcell (LQb y hy) 0 _ rfl).1, (txcell (LQb y hy) 1 _ rfl).1, (txcell (LQb y hy) 2 _ rfl).1, (txcell (LQb y hy) 3 _ rfl).1⟩
          have LN : ∀ y : World, Below wr.drew.heap.size wr.drew y → y.cell? ⟨p7, 0, none⟩ = some (.slice (some ⟨gn, on, none⟩) l7 c7) := fun y hy => (txcell (LNb y hy) 0 _ rfl).1
          have LX : ∀ y : World, Below wr.drew.heap.size wr.drew y → y.cell? ⟨gn, on + k, none⟩ = some (.string x) := fun y hy => (hy.cell (p := ⟨gn, on + k, none⟩) hgn).trans (((Below.refl wr.heap.size wr).drew.cell (p := ⟨gn, on + k, none⟩) hgn).trans hxc)
          have OA : ∀ y : World, Below wr.drew.heap.size wr.drew y → Calls Tryz.prog 48 #[.agg (sum4 no co n c n d p.k 0), .string x] y fun e' w' => e' = .returned (.int .i64 (cof x p.ns p.cs)) ∧ Below y.heap.size y w' := fun y hy => of_at no co n c n d p.k 0 p.ns p.cs x y (h1.below (Nat.le_refl _) (bt2 hBr.drew hy)) (h2.below (Nat.le_refl _) (bt2 hBr.drew hy)) rfl
          have OB : ∀ y : World, Below wr.drew.heap.size wr.drew y → Calls Tryz.prog 48 #[.agg (sum4 no' co' n' c' n' d' q.k 0), .string x] y fun e' w' => e' = .returned (.int .i64 (cof x q.ns q.cs)) ∧ Below y.heap.size y w' := fun y hy => of_at no' co' n' c' n' d' q.k 0 q.ns q.cs x y (k1.below (Nat.le_refl _) (bt2 hBr.drew hy)) (k2.below (Nat.le_refl _) (bt2 hBr.drew hy)) rfl
          clear n0
          have n0 : wr.cell? ⟨p7, 0, none⟩ = some (.slice (some ⟨gn, on, none⟩) l7 c7) := (txcell (vs := sum4 (some ⟨gn, on, none⟩) ck l7 c7 k dk 0 e) hRk 0 _ rfl).1
          go_wp2_with (fail)
          clear n0
          refine wp_region_propsL (GT [(30, .agg (sum4 no co n c n d p.k 0)), (31, .pointer (some ⟨p7, 0, none⟩)), (32, .slice (some ⟨gn, on, none⟩) l7 c7), (33, .int .i64 (k : Nat)), (34, .pointer (some ⟨gn, on + k, none⟩)), (35, .string x), (36, .int .i64 (cof x p.ns p.cs)), (37, .agg (sum4 no' co' n' c' n' d' q.k 0)), (38, .pointer (some ⟨p7, 0, none⟩)), (39, .slice (some ⟨gn, on, none⟩) l7 c7), (40, .int .i64 (k : Nat)), (41, .pointer (some ⟨gn, on + k, none⟩)), (42, .string x), (43, .int .i64 (cof x q.ns q.cs)), (44, .tuple #[.int .i64 (Wd.nOf (bop false (cof x p.ns p.cs) (cof x q.ns q.cs))), .int .i64 (Wd.eOf (bop false (cof x p.ns p.cs) (cof x q.ns q.cs)))]), (29, .tuple #[.int .i64 (Wd.nOf (bop false (cof x p.ns p.cs) (cof x q.ns q.cs))), .int .i64 (Wd.eOf (bop false (cof x p.ns p.cs) (cof x q.ns q.cs)))]), (45, .int .i64 (Wd.nOf (bop false (cof x p.ns p.cs) (cof x q.ns q.cs)))), (46, .int .i64 (Wd.eOf (bop false (cof x p.ns p.cs) (cof x q.ns q.cs)))), (9, .int .i64 (Wd.nOf (bop false (cof x p.ns p.cs) (cof x q.ns q.cs)))), (10, .int .i64 (Wd.eOf (bop false (cof x p.ns p.cs) (cof x q.ns q.cs))))] (fun v y => True)) [30, 31, 32, 33, 34, 35, 36, 37, 38, 39, 40, 41, 42, 43, 44, 29, 45, 46, 9, 10] (by kernel_rfl) (by kernel_rfl) (by kernel_rfl) (gt_keep (Rel := fun x y => Below x.heap.size x y) (fun v y z h hb => h)) ?_ ?_
          · intro k' o hk
            have hk'' : k' < 20 := (Array.getElem?_eq_some_iff.1 hk).1
            rcases (show k' = 0 ∨ k' = 1 ∨ k' = 2 ∨ k' = 3 ∨ k' = 4 ∨ k' = 5 ∨ k' = 6 ∨ k' = 7 ∨ k' = 8 ∨ k' = 9 ∨ k' = 10 ∨ k' = 11 ∨ k' = 12 ∨ k' = 13 ∨ k' = 14 ∨ k' = 15 ∨ k' = 16 ∨ k' = 17 ∨ k' = 18 ∨ k' = 19 by omega) with rfl | rfl | rfl | rfl | rfl | rfl | rfl | rfl | rfl | rfl | rfl | rfl | rfl | rfl | rfl | rfl | rfl | rfl | rfl | rfl
            · have ho' : some _ = some o := hk
              cases ho'
              refine rgstep_of fun a w6 hold hdep hrel K hK => ?_
              have e3 := (hold 3 (by decide)).trans (show _ = some (.pointer (some ⟨w.heap.size, 0, none⟩)) from rfl)
              have h3 := eval_tmp9 e3
              unfold Oper.wp
              simp only [execOp, h3]
              obtain ⟨f0, f1, f2, f3⟩ := LP w6 hrel
              go_simp
              exact hK _ _ (fun d hd => by cases (show some 30 = some d from hd); exact rfl) (hrr _)
            · have ho' : some _ = some o := hk
              cases ho'
              refine rgstep_of fun a w6 hold hdep hrel K hK => ?_
              have e7 := (hold 7 (by decide)).trans (show _ = some (.pointer (some ⟨p7, 0, none⟩)) from rfl)
              have h7 := eval_tmp9 e7
              unfold Oper.wp
              simp only [execOp, h7]
              go_simp
              exact hK _ _ (fun d hd => by cases (show some 31 = some d from hd); exact rfl) (hrr _)
            · have ho' : some _ = some o := hk
              cases ho'
              refine rgstep_of fun a w6 hold hdep hrel K hK => ?_
              obtain ⟨u31, e31, g31⟩ := hdep _ (Array.mem_of_getElem? (i := 0) rfl) _ _ rfl rfl rfl
              obtain rfl : u31 = .pointer (some ⟨p7, 0, none⟩) := g31
              have h31 := eval_tmp9 e31
              unfold Oper.wp
              simp only [execOp, h31]
              have f0 := LN w6 hrel
              go_simp
              exact hK _ _ (fun d hd => by cases (show some 32 = some d from hd); exact rfl) (hrr _)
            · have ho' : some _ = some o := hk
              cases ho'
              refine rgstep_of fun a w6 hold hdep hrel K hK => ?_
              have e8 := (hold 8 (by decide)).trans (show _ = some (.int .i64 (k : Nat)) from rfl)
              have h8 := eval_tmp9 e8
              unfold Oper.wp
              simp only [execOp, h8]
              go_simp
              exact hK _ _ (fun d hd => by cases (show some 33 = some d from hd); exact rfl) (hrr _)
            · have ho' : some _ = some o := hk
              cases ho'
              refine rgstep_of fun a w6 hold hdep hrel K hK => ?_
              obtain ⟨u32, e32, g32⟩ := hdep _ (Array.mem_of_getElem? (i := 0) rfl) _ _ rfl rfl rfl
              obtain rfl : u32 = .slice (some ⟨gn, on, none⟩) l7 c7 := g32
              have h32 := eval_tmp9 e32
              obtain ⟨u33, e33, g33⟩ := hdep _ (Array.mem_of_getElem? (i := 1) rfl) _ _ rfl rfl rfl
              obtain rfl : u33 = .int .i64 (k : Nat) := g33
              have h33 := eval_tmp9 e33
              unfold Oper.wp
              simp only [execOp, h32, h33]
              go_simp
              exact hK _ _ (fun d hd => by cases (show some 34 = some d from hd); exact rfl) (hrr _)
            · have ho' : some _ = some o := hk
              cases ho'
              refine rgstep_of fun a w6 hold hdep hrel K hK => ?_
              obtain ⟨u34, e34, g34⟩ := hdep _ (Array.mem_of_getElem? (i := 0) rfl) _ _ rfl rfl rfl
              obtain rfl : u34 = .pointer (some ⟨gn, on + k, none⟩) := g34
              have h34 := eval_tmp9 e34
              unfold Oper.wp
              simp only [execOp, h34]
              have f0 := LX w6 hrel
              go_simp
              exact hK _ _ (fun d hd => by cases (show some 35 = some d from hd); exact rfl) (hrr _)
            · have ho' : some _ = some o := hk
              cases ho'
              refine rgstep_of fun a w6 hold hdep hrel K hK => ?_
              obtain ⟨u30, e30, g30⟩ := hdep _ (Array.mem_of_getElem? (i := 0) rfl) _ _ rfl rfl rfl
              obtain rfl : u30 = .agg (sum4 no co n c n d p.k 0) := g30
              have h30 := eval_tmp9 e30
              obtain ⟨u35, e35, g35⟩ := hdep _ (Array.mem_of_getElem? (i := 1) rfl) _ _ rfl rfl rfl
              obtain rfl : u35 = .string x := g35
              have h35 := eval_tmp9 e35
              unfold Oper.wp
              simp only [execOp, h30, h35]
              go_simp
              refine (OA w6 hrel).mono ?_
              rintro e w7 ⟨rfl, hB7⟩
              exact hK _ _ (fun d hd => by cases (show some 36 = some d from hd); exact rfl) hB7
            · have ho' : some _ = some o := hk
              cases ho'
              refine rgstep_of fun a w6 hold hdep hrel K hK => ?_
              have e4 := (hold 4 (by decide)).trans (show _ = some (.pointer (some ⟨w.heap.size + 1, 0, none⟩)) from rfl)
              have h4 := eval_tmp9 e4
              unfold Oper.wp
              simp only [execOp, h4]
              obtain ⟨f0, f1, f2, f3⟩ := LQ w6 hrel
              go_simp
              exact hK _ _ (fun d hd => by cases (show some 37 = some d from hd); exact rfl) (hrr _)
            · have ho' : some _ = some o := hk
              cases ho'
              refine rgstep_of fun a w6 hold hdep hrel K hK => ?_
              have e7 := (hold 7 (by decide)).trans (show _ = some (.pointer (some ⟨p7, 0, none⟩)) from rfl)
              have h7 := eval_tmp9 e7
              unfold Oper.wp
              simp only [execOp, h7]
              go_simp
              exact hK _ _ (fun d hd => by cases (show some 38 = some d from hd); exact rfl) (hrr _)
            · have ho' : some _ = some o := hk
              cases ho'
              refine rgstep_of fun a w6 hold hdep hrel K hK => ?_
              obtain ⟨u38, e38, g38⟩ := hdep _ (Array.mem_of_getElem? (i := 0) rfl) _ _ rfl rfl rfl
              obtain rfl : u38 = .pointer (some ⟨p7, 0, none⟩) := g38
              have h38 := eval_tmp9 e38
              unfold Oper.wp
              simp only [execOp, h38]
              have f0 := LN w6 hrel
              go_simp
              exact hK _ _ (fun d hd => by cases (show some 39 = some d from hd); exact rfl) (hrr _)
            · have ho' : some _ = some o := hk
              cases ho'
              refine rgstep_of fun a w6 hold hdep hrel K hK => ?_
              have e8 := (hold 8 (by decide)).trans (show _ = some (.int .i64 (k : Nat)) from rfl)
              have h8 := eval_tmp9 e8
              unfold Oper.wp
              simp only [execOp, h8]
              go_simp
              exact hK _ _ (fun d hd => by cases (show some 40 = some d from hd); exact rfl) (hrr _)
            · have ho' : some _ = some o := hk
              cases ho'
              refine rgstep_of fun a w6 hold hdep hrel K hK => ?_
              obtain ⟨u39, e39, g39⟩ := hdep _ (Array.mem_of_getElem? (i := 0) rfl) _ _ rfl rfl rfl
              obtain rfl : u39 = .slice (some ⟨gn, on, none⟩) l7 c7 := g39
              have h39 := eval_tmp9 e39
              obtain ⟨u40, e40, g40⟩ := hdep _ (Array.mem_of_getElem? (i := 1) rfl) _ _ rfl rfl rfl
              obtain rfl : u40 = .int .i64 (k : Nat) := g40
              have h40 := eval_tmp9 e40
              unfold Oper.wp
              simp only [execOp, h39, h40]
              go_simp
              exact hK _ _ (fun d hd => by cases (show some 41 = some d from hd); exact rfl) (hrr _)
            · have ho' : some _ = some o := hk
              cases ho'
              refine rgstep_of fun a w6 hold hdep hrel K hK => ?_
              obtain ⟨u41, e41, g41⟩ := hdep _ (Array.mem_of_getElem? (i := 0) rfl) _ _ rfl rfl rfl
              obtain rfl : u41 = .pointer (some ⟨gn, on + k, none⟩) := g41
              have h41 := eval_tmp9 e41
              unfold Oper.wp
              simp only [execOp, h41]
              have f0 := LX w6 hrel
              go_simp
              exact hK _ _ (fun d hd => by cases (show some 42 = some d from hd); exact rfl) (hrr _)
            · have ho' : some _ = some o := hk
              cases ho'
              refine rgstep_of fun a w6 hold hdep hrel K hK => ?_
              obtain ⟨u37, e37, g37⟩ := hdep _ (Array.mem_of_getElem? (i := 0) rfl) _ _ rfl rfl rfl
              obtain rfl : u37 = .agg (sum4 no' co' n' c' n' d' q.k 0) := g37
              have h37 := eval_tmp9 e37
              obtain ⟨u42, e42, g42⟩ := hdep _ (Array.mem_of_getElem? (i := 1) rfl) _ _ rfl rfl rfl
              obtain rfl : u42 = .string x := g42
              have h42 := eval_tmp9 e42
              unfold Oper.wp
              simp only [execOp, h37, h42]
              go_simp
              refine (OB w6 hrel).mono ?_
              rintro e w7 ⟨rfl, hB7⟩
              exact hK _ _ (fun d hd => by cases (show some 43 = some d from hd); exact rfl) hB7
            · have ho' : some _ = some o := hk
              cases ho'
              refine rgstep_of fun a w6 hold hdep hrel K hK => ?_
              obtain ⟨u36, e36, g36⟩ := hdep _ (Array.mem_of_getElem? (i := 0) rfl) _ _ rfl rfl rfl
              obtain rfl : u36 = .int .i64 (cof x p.ns p.cs) := g36
              have h36 := eval_tmp9 e36
              obtain ⟨u43, e43, g43⟩ := hdep _ (Array.mem_of_getElem? (i := 1) rfl) _ _ rfl rfl rfl
              obtain rfl : u43 = .int .i64 (cof x q.ns q.cs) := g43
              have h43 := eval_tmp9 e43
              unfold Oper.wp
              simp only [execOp, h36, h43]
              go_simp
              refine (AD w6).mono ?_
              rintro e w7 ⟨rfl, hB7⟩
              exact hK _ _ (fun d hd => by cases (show some 44 = some d from hd); exact rfl) hB7
            · have ho' : some _ = some o := hk
              cases ho'
              refine rgstep_of fun a w6 hold hdep hrel K hK => ?_
              obtain ⟨u44, e44, g44⟩ := hdep _ (Array.mem_of_getElem? (i := 0) rfl) _ _ rfl rfl rfl
              obtain rfl : u44 = .tuple #[.int .i64 (Wd.nOf (bop false (cof x p.ns p.cs) (cof x q.ns q.cs))), .int .i64 (Wd.eOf (bop false (cof x p.ns p.cs) (cof x q.ns q.cs)))] := g44
              have h44 := eval_tmp9 e44
              unfold Oper.wp
              simp only [execOp, h44]
              go_simp
              exact hK _ _ (fun d hd => by cases (show some 29 = some d from hd); exact rfl) (hrr _)
            · have ho' : some _ = some o := hk
              cases ho'
              refine rgstep_of fun a w6 hold hdep hrel K hK => ?_
              obtain ⟨u29, e29, g29⟩ := hdep _ (Array.mem_of_getElem? (i := 0) rfl) _ _ rfl rfl rfl
              obtain rfl : u29 = .tuple #[.int .i64 (Wd.nOf (bop false (cof x p.ns p.cs) (cof x q.ns q.cs))), .int .i64 (Wd.eOf (bop false (cof x p.ns p.cs) (cof x q.ns q.cs)))] := g29
              have h29 := eval_tmp9 e29
              unfold Oper.wp
              simp only [execOp, h29]
              go_simp
              exact hK _ _ (fun d hd => by cases (show some 45 = some d from hd); exact rfl) (hrr _)
            · have ho' : some _ = some o := hk
              cases ho'
              refine rgstep_of fun a w6 hold hdep hrel K hK => ?_
              obtain ⟨u29, e29, g29⟩ := hdep _ (Array.mem_of_getElem? (i := 0) rfl) _ _ rfl rfl rfl
              obtain rfl : u29 = .tuple #[.int .i64 (Wd.nOf (bop false (cof x p.ns p.cs) (cof x q.ns q.cs))), .int .i64 (Wd.eOf (bop false (cof x p.ns p.cs) (cof x q.ns q.cs)))] := g29
              have h29 := eval_tmp9 e29
              unfold Oper.wp
              simp only [execOp, h29]
              go_simp
              exact hK _ _ (fun d hd => by cases (show some 46 = some d from hd); exact rfl) (hrr _)
            · have ho' : some _ = some o := hk
              cases ho'
              refine rgstep_of fun a w6 hold hdep hrel K hK => ?_
              obtain ⟨u45, e45, g45⟩ := hdep _ (Array.mem_of_getElem? (i := 0) rfl) _ _ rfl rfl rfl
              obtain rfl : u45 = .int .i64 (Wd.nOf (bop false (cof x p.ns p.cs) (cof x q.ns q.cs))) := g45
              have h45 := eval_tmp9 e45
              unfold Oper.wp
              simp only [execOp, h45]
              go_simp
              exact hK _ _ (fun d hd => by cases (show some 9 = some d from hd); exact rfl) (hrr _)
            · have ho' : some _ = some o := hk
              cases ho'
              refine rgstep_of fun a w6 hold hdep hrel K hK => ?_
              obtain ⟨u46, e46, g46⟩ := hdep _ (Array.mem_of_getElem? (i := 0) rfl) _ _ rfl rfl rfl
              obtain rfl : u46 = .int .i64 (Wd.eOf (bop false (cof x p.ns p.cs) (cof x q.ns q.cs))) := g46
              have h46 := eval_tmp9 e46
              unfold Oper.wp
              simp only [execOp, h46]
              go_simp
              exact hK _ _ (fun d hd => by cases (show some 10 = some d from hd); exact rfl) (hrr _)
          · intro vs w6 hrel hG
            have v30 : vs 30 = .agg (sum4 no co n c n d p.k 0) := hG 30 (by decide)
            have v31 : vs 31 = .pointer (some ⟨p7, 0, none⟩) := hG 31 (by decide)
            have v32 : vs 32 = .slice (some ⟨gn, on, none⟩) l7 c7 := hG 32 (by decide)
            have v33 : vs 33 = .int .i64 (k : Nat) := hG 33 (by decide)
            have v34 : vs 34 = .pointer (some ⟨gn, on + k, none⟩) := hG 34 (by decide)
            have v35 : vs 35 = .string x := hG 35 (by decide)
            have v36 : vs 36 = .int .i64 (cof x p.ns p.cs) := hG 36 (by decide)
            have v37 : vs 37 = .agg (sum4 no' co' n' c' n' d' q.k 0) := hG 37 (by decide)
            have v38 : vs 38 = .pointer (some ⟨p7, 0, none⟩) := hG 38 (by decide)
            have v39 : vs 39 = .slice (some ⟨gn, on, none⟩) l7 c7 := hG 39 (by decide)
            have v40 : vs 40 = .int .i64 (k : Nat) := hG 40 (by decide)
            have v41 : vs 41 = .pointer (some ⟨gn, on + k, none⟩) := hG 41 (by decide)
            have v42 : vs 42 = .string x := hG 42 (by decide)
            have v43 : vs 43 = .int .i64 (cof x q.ns q.cs) := hG 43 (by decide)
            have v44 : vs 44 = .tuple #[.int .i64 (Wd.nOf (bop false (cof x p.ns p.cs) (cof x q.ns q.cs))), .int .i64 (Wd.eOf (bop false (cof x p.ns p.cs) (cof x q.ns q.cs)))] := hG 44 (by decide)
            have v29 : vs 29 = .tuple #[.int .i64 (Wd.nOf (bop false (cof x p.ns p.cs) (cof x q.ns q.cs))), .int .i64 (Wd.eOf (bop false (cof x p.ns p.cs) (cof x q.ns q.cs)))] := hG 29 (by decide)
            have v45 : vs 45 = .int .i64 (Wd.nOf (bop false (cof x p.ns p.cs) (cof x q.ns q.cs))) := hG 45 (by decide)
            have v46 : vs 46 = .int .i64 (Wd.eOf (bop false (cof x p.ns p.cs) (cof x q.ns q.cs))) := hG 46 (by decide)
            have v9 : vs 9 = .int .i64 (Wd.nOf (bop false (cof x p.ns p.cs) (cof x q.ns q.cs))) := hG 9 (by decide)
            have v10 : vs 10 = .int .i64 (Wd.eOf (bop false (cof x p.ns p.cs) (cof x q.ns q.cs))) := hG 10 (by decide)
            simp only [putR, v30, v31, v32, v33, v34, v35, v36, v37, v38, v39, v40, v41, v42, v43, v44, v29, v45, v46, v9, v10]
            clear v30 v31 v32 v33 v34 v35 v36 v37 v38 v39 v40 v41 v42 v43 v44 v29 v45 v46 v9 v10 hG
            have hBx := bt2 (Below.refl wr.heap.size wr).drew hrel
            have hRx := hRk.keep hBx
            have hOx := owns_below hOk hBx
            have hXx := hX.trans (Bux.of hBx)
            clear LPb LQb LNb LP LQ LN LX OA OB hrr hrel AD SB HS PB QB hRk hOk hX hBx
            have hw6' : p7 < w6.heap.size := (Array.getElem?_eq_some_iff.1 hRx).1
            generalize Wd.nOf (bop false (cof x p.ns p.cs) (cof x q.ns q.cs)) = vv at hUs ⊢
            generalize Wd.eOf (bop false (cof x p.ns p.cs) (cof x q.ns q.cs)) = ee at hFs ⊢
            go_wp2_with (fail)
            generalize hee : (if ee = 0 then e else 91) = ex at hFs
            have hRd := hRx.keep (Below.refl w6.heap.size w6).drew
            have hI0 : I8 wc p7 (some ⟨gn, on, none⟩) ck l7 c7 k dk e ex ((us9 false p q T).take k) w6.drew := ⟨hXx.trans (Bux.of (Below.refl w6.heap.size w6).drew), ⟨e, .inl rfl, hRd⟩, hOx.drew⟩
            have NT : Hid (∀ y : World, I8 wc p7 (some ⟨gn, on, none⟩) ck l7 c7 k dk e ex ((us9 false p q T).take k) y → Calls Tryz.prog 27 #[.pointer (some ⟨p7, 0, none⟩), .int .i64 vv, .int .i64 ee] y fun en w' => en = .returned (.int .i64 vv) ∧ Rb w' p7 (sum4 (some ⟨gn, on, none⟩) ck l7 c7 k dk 0 ex) 32 ∧ Bux p7 y w') := by
              intro y hy
              obtain ⟨e', he', hR⟩ := hy.blk
              have hx : (if ee = 0 then e' else 91) = ex := by
                rcases he' with rfl | rfl
                · exact hee
                · by_cases h0 : ee = 0
                  · rw [if_pos h0]
                  · rw [if_neg h0] at hee ⊢; exact hee
              have := note_any p7 vv ee (some ⟨gn, on, none⟩) ck l7 c7 k dk 0 e' y hR
              rw [hx] at this
              exact this
            have hrr : ∀ y : World, Rel8 wc p7 (some ⟨gn, on, none⟩) ck l7 c7 k dk e ex ((us9 false p q T).take k) vv y y := fun y => Rel8.refl y
            refine wp_region_lastL (GS [(66, .pointer (some ⟨p7, 1, none⟩)), (67, .slice ck k dk), (68, .int .i64 vv), (69, .int .i64 ee), (73, .pointer (some ⟨p7, 1, none⟩))] [(70, P70 p7 (some ⟨gn, on, none⟩) ck l7 c7 k dk ex vv), (71, P71 p7 (some ⟨gn, on, none⟩) ck l7 c7 k dk ex vv), (72, P72 wc p7 (some ⟨gn, on, none⟩) ck l7 c7 k dk e ex ((us9 false p q T).take k) vv)]) (Rel8 wc p7 (some ⟨gn, on, none⟩) ck l7 c7 k dk e ex ((us9 false p q T).take k) vv) [66, 67, 68, 69, 70, 71, 72, 73] 8 (by kernel_rfl) (by kernel_rfl) hrr (fun x y z h k => h.trans _ _ _ k) (by kernel_rfl) (by kernel_rfl) ?_ ?_ ?_
            · refine gs_keep ?_
              intro q hq v y z hP hb
              simp only [List.mem_cons, List.not_mem_nil, or_false] at hq
              rcases hq with rfl | rfl | rfl
              · exact P70.keep hP hb
              · exact P71.keep hP hb
              · exact P72.keep hP hb
            · intro k o hk ho
              have hk' : k < 8 := hk
              rcases (show k = 0 ∨ k = 1 ∨ k = 2 ∨ k = 3 ∨ k = 4 ∨ k = 5 ∨ k = 6 ∨ k = 7 by omega) with rfl | rfl | rfl | rfl | rfl | rfl | rfl | rfl
              · have ho' : some _ = some o := ho
                cases ho'
                refine rlstep_of fun a w6 hold hdep hrel K hK => ?_
                have e7 := (hold 7 (by decide)).trans (show _ = some (.pointer (some ⟨p7, 0, none⟩)) from rfl)
                have h7 := eval_tmp9 e7
                unfold Oper.wp
                simp only [execOp, h7]
                go_simp
                exact hK _ _ (fun d hd => by cases (show some 66 = some d from hd); exact rfl) (hrr _)
              · have ho' : some _ = some o := ho
                cases ho'
                refine rlstep_of fun a w6 hold hdep hrel K hK => ?_
                obtain ⟨u66, e66, g66⟩ := hdep _ (Array.mem_of_getElem? (i := 0) rfl) _ _ rfl rfl rfl
                obtain rfl : u66 = .pointer (some ⟨p7, 1, none⟩) := g66
                have h66 := eval_tmp9 e66
                unfold Oper.wp
                simp only [execOp, h66]
                have f0 := (hrel.inv hI0).c1
                go_simp
                exact hK _ _ (fun d hd => by cases (show some 67 = some d from hd); exact rfl) (hrr _)
              · have ho' : some _ = some o := ho
                cases ho'
                refine rlstep_of fun a w6 hold hdep hrel K hK => ?_
                have e9 := (hold 9 (by decide)).trans (show _ = some (.int .i64 vv) from rfl)
                have h9 := eval_tmp9 e9
                unfold Oper.wp
                simp only [execOp, h9]
                go_simp
                exact hK _ _ (fun d hd => by cases (show some 68 = some d from hd); exact rfl) (hrr _)
              · have ho' : some _ = some o := ho
                cases ho'
                refine rlstep_of fun a w6 hold hdep hrel K hK => ?_
                have e10 := (hold 10 (by decide)).trans (show _ = some (.int .i64 ee) from rfl)
                have h10 := eval_tmp9 e10
                unfold Oper.wp
                simp only [execOp, h10]
                go_simp
                exact hK _ _ (fun d hd => by cases (show some 69 = some d from hd); exact rfl) (hrr _)
              · have ho' : some _ = some o := ho
                cases ho'
                refine rlstep_of fun a w6 hold hdep hrel K hK => ?_
                have e7 := (hold 7 (by decide)).trans (show _ = some (.pointer (some ⟨p7, 0, none⟩)) from rfl)
                have h7 := eval_tmp9 e7
                obtain ⟨u68, e68, g68⟩ := hdep _ (Array.mem_of_getElem? (i := 0) rfl) _ _ rfl rfl rfl
                obtain rfl : u68 = .int .i64 vv := g68
                have h68 := eval_tmp9 e68
                obtain ⟨u69, e69, g69⟩ := hdep _ (Array.mem_of_getElem? (i := 1) rfl) _ _ rfl rfl rfl
                obtain rfl : u69 = .int .i64 ee := g69
                have h69 := eval_tmp9 e69
                unfold Oper.wp
                simp only [execOp, h7, h68, h69]
                go_simp
                refine (NT.out w6 (hrel.inv hI0)).mono ?_
                rintro en w8 ⟨rfl, hR8, hX8⟩
                exact hK _ _ (fun d hd => by cases (show some 70 = some d from hd); exact ⟨rfl, hR8⟩) (Rel8.note hp7s hX8 hR8)
              · have ho' : some _ = some o := ho
                cases ho'
                refine rlstep_of fun a w6 hold hdep hrel K hK => ?_
                obtain ⟨u70, e70, g70⟩ := hdep _ (Array.mem_of_getElem? (i := 0) rfl) _ _ rfl rfl rfl
                obtain ⟨rfl, q70⟩ := (show P70 p7 (some ⟨gn, on, none⟩) ck l7 c7 k dk ex vv u70 w6 from g70)
                have h70 := eval_tmp9 e70
                unfold Oper.wp
                simp only [execOp, h70]
                have hI6 := hrel.inv hI0
                go_simp
                exact hK _ _ (fun d hd => by cases (show some 71 = some d from hd); exact ⟨w6.heap.size, rfl, cell_new1 _ _ _, (by have := (Array.getElem?_eq_some_iff.1 q70).1; omega), (fun ad he => by have := (hI6.row_ne ad he).2; omega), q70.keep (bal w6 _)⟩) (Rel8.of (bal w6 _))
              · have ho' : some _ = some o := ho
                cases ho'
                refine rlstep_of fun a w6 hold hdep hrel K hK => ?_
                obtain ⟨u67, e67, g67⟩ := hdep _ (Array.mem_of_getElem? (i := 0) rfl) _ _ rfl rfl rfl
                obtain rfl : u67 = .slice ck k dk := g67
                have h67 := eval_tmp9 e67
                obtain ⟨u71, e71, g71⟩ := hdep _ (Array.mem_of_getElem? (i := 1) rfl) _ _ rfl rfl rfl
                obtain ⟨x71, rfl, q71⟩ := (show P71 p7 (some ⟨gn, on, none⟩) ck l7 c7 k dk ex vv u71 w6 from g71)
                have h71 := eval_tmp9 e71
                have hI6 := hrel.inv hI0
                refine op_pushE w6 wc.heap.size (.tmp 67) (.tmp 71) rfl ck k dk ((us9 false p q T).take k) h67 x71 vv h71 hI6.own q71.1 hI6.bux.size (by omega) ?_
                intro a' c' w8 hO8 hL8 hb8 ho8
                have hr8 := Rel8.push (p := p7) (a := (some ⟨gn, on, none⟩)) (l := l7) (c := c7) (k := k) (dk := dk) (e := e) (ex := ex) hp7s hL8 hb8 ho8
                exact hK _ _ (fun d hd => by cases (show some 72 = some d from hd); exact ⟨a', c', rfl, hO8, hr8.noted q71.2.2.2, hr8.inv hI6⟩) hr8
              · have ho' : some _ = some o := ho
                cases ho'
                refine rlstep_of fun a w6 hold hdep hrel K hK => ?_
                have e7 := (hold 7 (by decide)).trans (show _ = some (.pointer (some ⟨p7, 0, none⟩)) from rfl)
                have h7 := eval_tmp9 e7
                unfold Oper.wp
                simp only [execOp, h7]
                go_simp
                exact hK _ _ (fun d hd => by cases (show some 73 = some d from hd); exact rfl) (hrr _)
            · intro vs w6 o' ho' hrel hG
              have v66 : vs 66 = .pointer (some ⟨p7, 1, none⟩) := hG 66 (by decide)
              have v67 : vs 67 = .slice ck k dk := hG 67 (by decide)
              have v68 : vs 68 = .int .i64 vv := hG 68 (by decide)
              have v69 : vs 69 = .int .i64 ee := hG 69 (by decide)
              have v73 : vs 73 = .pointer (some ⟨p7, 1, none⟩) := hG 73 (by decide)
              obtain ⟨c9, d9, v72, hO9, hR9, hI9⟩ := (show P72 wc p7 (some ⟨gn, on, none⟩) ck l7 c7 k dk e ex ((us9 false p q T).take k) vv (vs 72) w6 from hG 72 (by decide))
              obtain ⟨x70, v70⟩ : ∃ x, vs 70 = x := ⟨_, rfl⟩
              obtain ⟨x71, v71⟩ : ∃ x, vs 71 = x := ⟨_, rfl⟩
              have ho'' : some _ = some o' := ho'
              cases ho''
              have hcf := c1_of hR9
              have d3 := hcf.1
              have f3 := hcf.2
              clear hcf
              have hX9 := hI9.bux.set 1 (.slice c9 (k + 1) d9)
              replace hO9 := owns_other (X := p7) hO9 (fun g hg => by have := (hO9.lt g hg).1; omega) 1 (.slice c9 (k + 1) d9)
              replace hR9 : Rb (w6.setCell ⟨p7, 1, none⟩ (.slice c9 (k + 1) d9)) p7 (sum4 (some ⟨gn, on, none⟩) c9 l7 c7 (k + 1) d9 0 ex) 32 := c1_set hR9
              simp only [putR, v66, v67, v68, v69, v70, v71, v72, v73]
              clear v66 v67 v68 v69 v70 v71 v72 v73 hG hrel hI9 NT hI0 hRd
              unfold Oper.wp
              simp only [execOp]
              go_simp
              clear d3 f3
              generalize w6.setCell ⟨p7, 1, none⟩ (.slice c9 (k + 1) d9) = w8 at hR9 hO9 hX9 ⊢
              go_wp2
              go_roundw
              case rel => exact ⟨k + 1, c9, d9, ex, by omega, by go_num, hR9, by rw [hUs.out] at hO9; exact hO9, hX9, hFs⟩
              case measure => simp [intOf]; omega
        · obtain rfl : k = l7 := by omega
          have hNr := rds_bx8 hN7 hX hne7
          have hKr := bk_bux hK7 hX hne7
          rw [show (us9 false p q T).take k = us9 false p q T from List.take_of_length_le (by simp [us9, HL.out])] at hOk
          have ZB := ZA.but hX hne2
          have pk : wr.cell? ⟨w.heap.size, 2, none⟩ = some (.int .i64 p.k) := (txcell (vs := sum4 no co n c n d p.k 0) PB 2 _ rfl).1
          have qk : wr.cell? ⟨w.heap.size + 1, 2, none⟩ = some (.int .i64 q.k) := (txcell (vs := sum4 no' co' n' c' n' d' q.k 0) QB 2 _ rfl).1
          have CA : Hid (∀ y : World, Calls Tryz.prog 47 #[.int .i64 p.k, .int .i64 q.k] y fun e' w' => e' = .returned (.tuple #[.int .i64 (Wd.nOf (bop false p.k q.k)), .int .i64 (Wd.eOf (bop false p.k q.k))]) ∧ Below y.heap.size y w') := fun y => Wd.ref_add _ _ y hpk.1 hpk.2 hqk.1 hqk.2
          have CS : Hid (∀ y : World, Calls Tryz.prog 26 #[.int .i64 p.k, .int .i64 q.k] y fun e' w' => e' = .returned (.tuple #[.int .i64 (Wd.nOf (bop true p.k q.k)), .int .i64 (Wd.eOf (bop true p.k q.k))]) ∧ Below y.heap.size y w') := fun y => Wd.ref_sub _ _ y hpk.1 hpk.2 hqk.1 hqk.2
          clear HADD HSUB hpk hqk PA QA ZA hR7 hN7 hBw
          go_wp2_with (fail)
          refine (CA.out wr).mono ?_
          rintro en w5 ⟨rfl, hB5⟩
          clear n0 pk qk
          have hFin := mkHid (fun (w' : World) (hN : RdS w' a7 k c7 T) (hK : Bk w' a7 9) (hZ : w'.ownsRow w.heap.size 2 1 (.slice ck k dk) k (cellsZ (us9 false p q T))) => fin9 (less := false) (p := p) (q := q) HT.out (by rw [HL.out]; exact hFt.out) hN hK hZ)
          have hR5 := hRk.keep hB5
          have hO5 := owns_below hOk hB5
          have hN5 := hNr.below (Nat.le_refl _) hB5
          have hK5 := hKr.below hB5
          have ZB5 := ZB.keep hB5
          have hB05 := bt2 hBr hB5
          have hx5 := hB5.size
          have hxr := hX.size
          clear hFt hRk hOk hNr hKr ZB hB5 hBr PB QB hX
          generalize Wd.nOf (bop false p.k q.k) = vv at hFin ⊢
          generalize Wd.eOf (bop false p.k q.k) = ee at hFin ⊢
          go_wp2_with (fail)
          have NT := mkHid (note_any p7 vv ee a7 ck k c7 k dk 0 e w5 hR5)
          generalize (if ee = 0 then e else 91) = ex at hFin NT
          refine NT.out.mono ?_
          rintro en w6 ⟨rfl, hR6, hX6⟩
          obtain ⟨c2, f2⟩ := c2_of hR6
          have hO6 := owns_but hO5 hX6 hp7s
          have hN6 := rds_bx8 hN5 hX6 hne7
          have hK6 := bk_bux hK5 hX6 hne7
          have ZB6 := ZB5.but hX6 hne2
          have hB06 := hB05.trans (hX6.below (B := w.heap.size) (by omega) (by omega))
          have hx6 := hX6.size
          have hR7 := c2_set (v := vv) hR6
          have hO7 := owns_other (X := p7) hO6 (fun g hg => by have := (hO6.lt g hg).1; omega) 2 (.int .i64 vv)
          have hN7 := rds_other hN6 hne7 2 (.int .i64 vv)
          have ZB7 := ZB6.other hne2 2 (.int .i64 vv)
          have hB07 := hB06.setCell (p := ⟨p7, 2, none⟩) (show w.heap.size ≤ p7 by omega) (.int .i64 vv)
          obtain ⟨m0, m1, m2, m3⟩ := cells4 hR7
          obtain ⟨⟨z0, y0⟩, ⟨z1, y1⟩, ⟨z2, y2⟩, ⟨z3, y3⟩⟩ := cellsZ4 ZB7
          have hR9 := rb_four ZB7 rfl (.slice a7 k c7) (.slice ck k dk) (.int .i64 vv) (.int .i64 ex)
          have hO9 := owns_other (X := w.heap.size + 2) (owns_st3 (X := w.heap.size + 2) hO7 (fun g hg => by have := (hO7.lt g hg).1; omega) (.slice a7 k c7) (.slice ck k dk) (.int .i64 vv)) (fun g hg => by have := (hO7.lt g hg).1; omega) 3 (.int .i64 ex)
          have hK9 := bk_set (bk_set (bk_set (bk_set (bk_set hK6 hne7 2 (.int .i64 vv)) hneZ 0 (.slice a7 k c7)) hneZ 1 (.slice ck k dk)) hneZ 2 (.int .i64 vv)) hneZ 3 (.int .i64 ex)
          have hN9 := rds_other (rds_st3 hN7 hneZ (.slice a7 k c7) (.slice ck k dk) (.int .i64 vv)) hneZ 3 (.int .i64 ex)
          have hB9 := (bel_st3 hB07 (show w.heap.size ≤ w.heap.size + 2 by omega) (.slice a7 k c7) (.slice ck k dk) (.int .i64 vv)).setCell (p := ⟨w.heap.size + 2, 3, none⟩) (show w.heap.size ≤ w.heap.size + 2 by omega) (.int .i64 ex)
          have HF := mkHid (hFin.out _ hN9 hK9 (owns_base hO9 (by omega)))
          clear hFin hO5 hO6 hO7 hO9 hN5 hN6 hN7 hN9 hK5 hK6 hK9 ZB5 ZB6 hB05 hB06 hB07 NT hX6
          go_wp2_with (fail)
          obtain ⟨k0, k1, k2, k3⟩ := cells4 hR9
          exact bodyPost_ret (v := .agg (sum4 a7 ck k c7 k dk vv ex)) (by simp [results, Tryz.results25, go_sem, k0, k1, k2, k3]) rfl ⟨_, rfl, HF.out, hB9⟩
    | true =>
      go_wp2
      go_loopw [8] (fun i wr => ∃ (k : Nat) (ck : Option Addr) (dk : Nat) (e : Int), k ≤ l7 ∧ i = .int .i64 k ∧ Rb wr p7 (sum4 a7 ck l7 c7 k dk 0 e) 32 ∧ wr.ownsRow wc.heap.size 2 1 (.slice ck k dk) k (cellsZ ((us9 true p q T).take k)) ∧ Bux p7 wc wr ∧ Hid (Fit9 true p q T k e)) (fun i _ => l7 - (intOf i).toNat)
      case atStart => exact ⟨0, none, 0, 0, Nat.zero_le _, rfl, hR7, World.ownsRow_nil _ _ _ _, Bux.refl _ _, .inl ⟨rfl, fun x hx => by simp at hx⟩⟩
      case round =>
        obtain ⟨k, ck, dk, e, hk, rfl, hRk, hOk, hX, hFt⟩ := hrel
        have hBr : Below w.heap.size w wr := hBw.trans (hX.below (by omega) (by omega))
        have PB := PA.but hX hne0
        have QB := QA.but hX hne1
        have n0 : wr.cell? ⟨p7, 0, none⟩ = some (.slice a7 l7 c7) := (txcell (vs := sum4 a7 ck l7 c7 k dk 0 e) hRk 0 _ rfl).1
        by_cases hlt : k < l7
        · obtain ⟨gn, on, rfl, hxc0⟩ := hN7.cell k hlt
          have hgw := World.block_lt_of_cell? _ _ hxc0
          have hgne : gn ≠ p7 := hne7 _ rfl
          have hxc : wr.cell? ⟨gn, on + k, none⟩ = some (.string (T.getD k emp)) := by
            rw [World.cell?_of_block (hX.block gn hgw hgne)]
            exact hxc0
          have hgn : gn < wr.heap.size := Nat.lt_of_lt_of_le hgw hX.size
          have hFs := mkHid (Fit9.step hFt.out (by rw [HL.out]; exact hlt))
          have hUs := mkHid (us9_take true p q T k (by rw [HL.out]; exact hlt))
          clear hxc0 hFt
          generalize T.getD k emp = x at hxc hFs hUs
          have AD := HADD.out x
          have SB := HSUB.out x
          have HS := (Below.refl wr.heap.size wr).drew
          have hrr : ∀ y : World, Below y.heap.size y y := fun y => Below.refl _ _
          have LPb : ∀ y : World, Below wr.drew.heap.size wr.drew y → Rb y w.heap.size (sum4 no co n c n d p.k 0) 32 := fun y hy => (PB.keep (Below.refl _ _).drew).keep hy
          have LQb : ∀ y : World, Below wr.drew.heap.size wr.drew y → Rb y (w.heap.size + 1) (sum4 no' co' n' c' n' d' q.k 0) 32 := fun y hy => (QB.keep (Below.refl _ _).drew).keep hy
          have LNb : ∀ y : World, Below wr.drew.heap.size wr.drew y → Rb y p7 (sum4 (some ⟨gn, on, none⟩) ck l7 c7 k dk 0 e) 32 := fun y hy => (hRk.keep (Below.refl _ _).drew).keep hy
          have LP : ∀ y : World, Below wr.drew.heap.size wr.drew y → y.cell? ⟨w.heap.size, 0, none⟩ = some (.slice no n c) ∧ y.cell? ⟨w.heap.size, 1, none⟩ = some (.slice co n d) ∧ y.cell? ⟨w.heap.size, 2, none⟩ = some (.int .i64 p.k) ∧ y.cell? ⟨w.heap.size, 3, none⟩ = some (.int .i64 0) := fun y hy => ⟨(txcell (LPb y hy) 0 _ rfl).1, (txcell (LPb y hy) 1 _ rfl).1, (txcell (LPb y hy) 2 _ rfl).1, (txcell (LPb y hy) 3 _ rfl).1⟩
          have LQ : ∀ y : World, Below wr.drew.heap.size wr.drew y → y.cell? ⟨w.heap.size + 1, 0, none⟩ = some (.slice no' n' c') ∧ y.cell? ⟨w.heap.size + 1, 1, none⟩ = some (.slice co' n' d') ∧ y.cell? ⟨w.heap.size + 1, 2, none⟩ = some (.int .i64 q.k) ∧ y.cell? ⟨w.heap.size + 1, 3, none⟩ = some (.int .i64 0) := fun y hy => ⟨(txcell (LQb y hy) 0 _ rfl).1, (txcell (LQb y hy) 1 _ rfl).1, (txcell (LQb y hy) 2 _ rfl).1, (txcell (LQb y hy) 3 _ rfl).1⟩
          have LN : ∀ y : World, Below wr.drew.heap.size wr.drew y → y.cell? ⟨p7, 0, none⟩ = some (.slice (some ⟨gn, on, none⟩) l7 c7) := fun y hy => (txcell (LNb y hy) 0 _ rfl).1
          have LX : ∀ y : World, Below wr.drew.heap.size wr.drew y → y.cell? ⟨gn, on + k, none⟩ = some (.string x) := fun y hy => (hy.cell (p := ⟨gn, on + k, none⟩) hgn).trans (((Below.refl wr.heap.size wr).drew.cell (p := ⟨gn, on + k, none⟩) hgn).trans hxc)
          have OA : ∀ y : World, Below wr.drew.heap.size wr.drew y → Calls Tryz.prog 48 #[.agg (sum4 no co n c n d p.k 0), .string x] y fun e' w' => e' = .returned (.int .i64 (cof x p.ns p.cs)) ∧ Below y.heap.size y w' := fun y hy => of_at no co n c n d p.k 0 p.ns p.cs x y (h1.below (Nat.le_refl _) (bt2 hBr.drew hy)) (h2.below (Nat.le_refl _) (bt2 hBr.drew hy)) rfl
          have OB : ∀ y : World, Below wr.drew.heap.size wr.drew y → Calls Tryz.prog 48 #[.agg (sum4 no' co' n' c' n' d' q.k 0), .string x] y fun e' w' => e' = .returned (.int .i64 (cof x q.ns q.cs)) ∧ Below y.heap.size y w' := fun y hy => of_at no' co' n' c' n' d' q.k 0 q.ns q.cs x y (k1.below (Nat.le_refl _) (bt2 hBr.drew hy)) (k2.below (Nat.le_refl _) (bt2 hBr.drew hy)) rfl
          clear n0
          have n0 : wr.cell? ⟨p7, 0, none⟩ = some (.slice (some ⟨gn, on, none⟩) l7 c7) := (txcell (vs := sum4 (some ⟨gn, on, none⟩) ck l7 c7 k dk 0 e) hRk 0 _ rfl).1
          go_wp2_with (fail)
          clear n0
          refine wp_region_propsL (GT [(30, .agg (sum4 no co n c n d p.k 0)), (31, .pointer (some ⟨p7, 0, none⟩)), (32, .slice (some ⟨gn, on, none⟩) l7 c7), (33, .int .i64 (k : Nat)), (34, .pointer (some ⟨gn, on + k, none⟩)), (35, .string x), (36, .int .i64 (cof x p.ns p.cs)), (37, .agg (sum4 no' co' n' c' n' d' q.k 0)), (38, .pointer (some ⟨p7, 0, none⟩)), (39, .slice (some ⟨gn, on, none⟩) l7 c7), (40, .int .i64 (k : Nat)), (41, .pointer (some ⟨gn, on + k, none⟩)), (42, .string x), (43, .int .i64 (cof x q.ns q.cs)), (44, .tuple #[.int .i64 (Wd.nOf (bop false (cof x p.ns p.cs) (cof x q.ns q.cs))), .int .i64 (Wd.eOf (bop false (cof x p.ns p.cs) (cof x q.ns q.cs)))]), (29, .tuple #[.int .i64 (Wd.nOf (bop false (cof x p.ns p.cs) (cof x q.ns q.cs))), .int .i64 (Wd.eOf (bop false (cof x p.ns p.cs) (cof x q.ns q.cs)))]), (45, .int .i64 (Wd.nOf (bop false (cof x p.ns p.cs) (cof x q.ns q.cs)))), (46, .int .i64 (Wd.eOf (bop false (cof x p.ns p.cs) (cof x q.ns q.cs)))), (9, .int .i64 (Wd.nOf (bop false (cof x p.ns p.cs) (cof x q.ns q.cs)))), (10, .int .i64 (Wd.eOf (bop false (cof x p.ns p.cs) (cof x q.ns q.cs))))] (fun v y => True)) [30, 31, 32, 33, 34, 35, 36, 37, 38, 39, 40, 41, 42, 43, 44, 29, 45, 46, 9, 10] (by kernel_rfl) (by kernel_rfl) (by kernel_rfl) (gt_keep (Rel := fun x y => Below x.heap.size x y) (fun v y z h hb => h)) ?_ ?_
          · intro k' o hk
            have hk'' : k' < 20 := (Array.getElem?_eq_some_iff.1 hk).1
            rcases (show k' = 0 ∨ k' = 1 ∨ k' = 2 ∨ k' = 3 ∨ k' = 4 ∨ k' = 5 ∨ k' = 6 ∨ k' = 7 ∨ k' = 8 ∨ k' = 9 ∨ k' = 10 ∨ k' = 11 ∨ k' = 12 ∨ k' = 13 ∨ k' = 14 ∨ k' = 15 ∨ k' = 16 ∨ k' = 17 ∨ k' = 18 ∨ k' = 19 by omega) with rfl | rfl | rfl | rfl | rfl | rfl | rfl | rfl | rfl | rfl | rfl | rfl | rfl | rfl | rfl | rfl | rfl | rfl | rfl | rfl
            · have ho' : some _ = some o := hk
              cases ho'
              refine rgstep_of fun a w6 hold hdep hrel K hK => ?_
              have e3 := (hold 3 (by decide)).trans (show _ = some (.pointer (some ⟨w.heap.size, 0, none⟩)) from rfl)
              have h3 := eval_tmp9 e3
              unfold Oper.wp
              simp only [execOp, h3]
              obtain ⟨f0, f1, f2, f3⟩ := LP w6 hrel
              go_simp
              exact hK _ _ (fun d hd => by cases (show some 30 = some d from hd); exact rfl) (hrr _)
            · have ho' : some _ = some o := hk
              cases ho'
              refine rgstep_of fun a w6 hold hdep hrel K hK => ?_
              have e7 := (hold 7 (by decide)).trans (show _ = some (.pointer (some ⟨p7, 0, none⟩)) from rfl)
              have h7 := eval_tmp9 e7
              unfold Oper.wp
              simp only [execOp, h7]
              go_simp
              exact hK _ _ (fun d hd => by cases (show some 31 = some d from hd); exact rfl) (hrr _)
            · have ho' : some _ = some o := hk
              cases ho'
              refine rgstep_of fun a w6 hold hdep hrel K hK => ?_
              obtain ⟨u31, e31, g31⟩ := hdep _ (Array.mem_of_getElem? (i := 0) rfl) _ _ rfl rfl rfl
              obtain rfl : u31 = .pointer (some ⟨p7, 0, none⟩) := g31
              have h31 := eval_tmp9 e31
              unfold Oper.wp
              simp only [execOp, h31]
              have f0 := LN w6 hrel
              go_simp
              exact hK _ _ (fun d hd => by cases (show some 32 = some d from hd); exact rfl) (hrr _)
            · have ho' : some _ = some o := hk
              cases ho'
              refine rgstep_of fun a w6 hold hdep hrel K hK => ?_
              have e8 := (hold 8 (by decide)).trans (show _ = some (.int .i64 (k : Nat)) from rfl)
              have h8 := eval_tmp9 e8
              unfold Oper.wp
              simp only [execOp, h8]
              go_simp
              exact hK _ _ (fun d hd => by cases (show some 33 = some d from hd); exact rfl) (hrr _)
            · have ho' : some _ = some o := hk
              cases ho'
              refine rgstep_of fun a w6 hold hdep hrel K hK => ?_
              obtain ⟨u32, e32, g32⟩ := hdep _ (Array.mem_of_getElem? (i := 0) rfl) _ _ rfl rfl rfl
              obtain rfl : u32 = .slice (some ⟨gn, on, none⟩) l7 c7 := g32
              have h32 := eval_tmp9 e32
              obtain ⟨u33, e33, g33⟩ := hdep _ (Array.mem_of_getElem? (i := 1) rfl) _ _ rfl rfl rfl
              obtain rfl : u33 = .int .i64 (k : Nat) := g33
              have h33 := eval_tmp9 e33
              unfold Oper.wp
              simp only [execOp, h32, h33]
              go_simp
              exact hK _ _ (fun d hd => by cases (show some 34 = some d from hd); exact rfl) (hrr _)
            · have ho' : some _ = some o := hk
              cases ho'
              refine rgstep_of fun a w6 hold hdep hrel K hK => ?_
              obtain ⟨u34, e34, g34⟩ := hdep _ (Array.mem_of_getElem? (i := 0) rfl) _ _ rfl rfl rfl
              obtain rfl : u34 = .pointer (some ⟨gn, on + k, none⟩) := g34
              have h34 := eval_tmp9 e34
              unfold Oper.wp
              simp only [execOp, h34]
              have f0 := LX w6 hrel
              go_simp
              exact hK _ _ (fun d hd => by cases (show some 35 = some d from hd); exact rfl) (hrr _)
            · have ho' : some _ = some o := hk
              cases ho'
              refine rgstep_of fun a w6 hold hdep hrel K hK => ?_
              obtain ⟨u30, e30, g30⟩ := hdep _ (Array.mem_of_getElem? (i := 0) rfl) _ _ rfl rfl rfl
              obtain rfl : u30 = .agg (sum4 no co n c n d p.k 0) := g30
              have h30 := eval_tmp9 e30
              obtain ⟨u35, e35, g35⟩ := hdep _ (Array.mem_of_getElem? (i := 1) rfl) _ _ rfl rfl rfl
              obtain rfl : u35 = .string x := g35
              have h35 := eval_tmp9 e35
              unfold Oper.wp
              simp only [execOp, h30, h35]
              go_simp
              refine (OA w6 hrel).mono ?_
              rintro e w7 ⟨rfl, hB7⟩
              exact hK _ _ (fun d hd => by cases (show some 36 = some d from hd); exact rfl) hB7
            · have ho' : some _ = some o := hk
              cases ho'
              refine rgstep_of fun a w6 hold hdep hrel K hK => ?_
              have e4 := (hold 4 (by decide)).trans (show _ = some (.pointer (some ⟨w.heap.size + 1, 0, none⟩)) from rfl)
              have h4 := eval_tmp9 e4
              unfold Oper.wp
              simp only [execOp, h4]
              obtain ⟨f0, f1, f2, f3⟩ := LQ w6 hrel
              go_simp
              exact hK _ _ (fun d hd => by cases (show some 37 = some d from hd); exact rfl) (hrr _)
            · have ho' : some _ = some o := hk
              cases ho'
              refine rgstep_of fun a w6 hold hdep hrel K hK => ?_
              have e7 := (hold 7 (by decide)).trans (show _ = some (.pointer (some ⟨p7, 0, none⟩)) from rfl)
              have h7 := eval_tmp9 e7
              unfold Oper.wp
              simp only [execOp, h7]
              go_simp
              exact hK _ _ (fun d hd => by cases (show some 38 = some d from hd); exact rfl) (hrr _)
            · have ho' : some _ = some o := hk
              cases ho'
              refine rgstep_of fun a w6 hold hdep hrel K hK => ?_
              obtain ⟨u38, e38, g38⟩ := hdep _ (Array.mem_of_getElem? (i := 0) rfl) _ _ rfl rfl rfl
              obtain rfl : u38 = .pointer (some ⟨p7, 0, none⟩) := g38
              have h38 := eval_tmp9 e38
              unfold Oper.wp
              simp only [execOp, h38]
              have f0 := LN w6 hrel
              go_simp
              exact hK _ _ (fun d hd => by cases (show some 39 = some d from hd); exact rfl) (hrr _)
            · have ho' : some _ = some o := hk
              cases ho'
              refine rgstep_of fun a w6 hold hdep hrel K hK => ?_
              have e8 := (hold 8 (by decide)).trans (show _ = some (.int .i64 (k : Nat)) from rfl)
              have h8 := eval_tmp9 e8
              unfold Oper.wp
              simp only [execOp, h8]
              go_simp
              exact hK _ _ (fun d hd => by cases (show some 40 = some d from hd); exact rfl) (hrr _)
            · have ho' : some _ = some o := hk
              cases ho'
              refine rgstep_of fun a w6 hold hdep hrel K hK => ?_
              obtain ⟨u39, e39, g39⟩ := hdep _ (Array.mem_of_getElem? (i := 0) rfl) _ _ rfl rfl rfl
              obtain rfl : u39 = .slice (some ⟨gn, on, none⟩) l7 c7 := g39
              have h39 := eval_tmp9 e39
              obtain ⟨u40, e40, g40⟩ := hdep _ (Array.mem_of_getElem? (i := 1) rfl) _ _ rfl rfl rfl
              obtain rfl : u40 = .int .i64 (k : Nat) := g40
              have h40 := eval_tmp9 e40
              unfold Oper.wp
              simp only [execOp, h39, h40]
              go_simp
              exact hK _ _ (fun d hd => by cases (show some 41 = some d from hd); exact rfl) (hrr _)
            · have ho' : some _ = some o := hk
              cases ho'
              refine rgstep_of fun a w6 hold hdep hrel K hK => ?_
              obtain ⟨u41, e41, g41⟩ := hdep _ (Array.mem_of_getElem? (i := 0) rfl) _ _ rfl rfl rfl
              obtain rfl : u41 = .pointer (some ⟨gn, on + k, none⟩) := g41
              have h41 := eval_tmp9 e41
              unfold Oper.wp
              simp only [execOp, h41]
              have f0 := LX w6 hrel
              go_simp
              exact hK _ _ (fun d hd => by cases (show some 42 = some d from hd); exact rfl) (hrr _)
            · have ho' : some _ = some o := hk
              cases ho'
              refine rgstep_of fun a w6 hold hdep hrel K hK => ?_
              obtain ⟨u37, e37, g37⟩ := hdep _ (Array.mem_of_getElem? (i := 0) rfl) _ _ rfl rfl rfl
              obtain rfl : u37 = .agg (sum4 no' co' n' c' n' d' q.k 0) := g37
              have h37 := eval_tmp9 e37
              obtain ⟨u42, e42, g42⟩ := hdep _ (Array.mem_of_getElem? (i := 1) rfl) _ _ rfl rfl rfl
              obtain rfl : u42 = .string x := g42
              have h42 := eval_tmp9 e42
              unfold Oper.wp
              simp only [execOp, h37, h42]
              go_simp
              refine (OB w6 hrel).mono ?_
              rintro e w7 ⟨rfl, hB7⟩
              exact hK _ _ (fun d hd => by cases (show some 43 = some d from hd); exact rfl) hB7
            · have ho' : some _ = some o := hk
              cases ho'
              refine rgstep_of fun a w6 hold hdep hrel K hK => ?_
              obtain ⟨u36, e36, g36⟩ := hdep _ (Array.mem_of_getElem? (i := 0) rfl) _ _ rfl rfl rfl
              obtain rfl : u36 = .int .i64 (cof x p.ns p.cs) := g36
              have h36 := eval_tmp9 e36
              obtain ⟨u43, e43, g43⟩ := hdep _ (Array.mem_of_getElem? (i := 1) rfl) _ _ rfl rfl rfl
              obtain rfl : u43 = .int .i64 (cof x q.ns q.cs) := g43
              have h43 := eval_tmp9 e43
              unfold Oper.wp
              simp only [execOp, h36, h43]
              go_simp
              refine (AD w6).mono ?_
              rintro e w7 ⟨rfl, hB7⟩
              exact hK _ _ (fun d hd => by cases (show some 44 = some d from hd); exact rfl) hB7
            · have ho' : some _ = some o := hk
              cases ho'
              refine rgstep_of fun a w6 hold hdep hrel K hK => ?_
              obtain ⟨u44, e44, g44⟩ := hdep _ (Array.mem_of_getElem? (i := 0) rfl) _ _ rfl rfl rfl
              obtain rfl : u44 = .tuple #[.int .i64 (Wd.nOf (bop false (cof x p.ns p.cs) (cof x q.ns q.cs))), .int .i64 (Wd.eOf (bop false (cof x p.ns p.cs) (cof x q.ns q.cs)))] := g44
              have h44 := eval_tmp9 e44
              unfold Oper.wp
              simp only [execOp, h44]
              go_simp
              exact hK _ _ (fun d hd => by cases (show some 29 = some d from hd); exact rfl) (hrr _)
            · have ho' : some _ = some o := hk
              cases ho'
              refine rgstep_of fun a w6 hold hdep hrel K hK => ?_
              obtain ⟨u29, e29, g29⟩ := hdep _ (Array.mem_of_getElem? (i := 0) rfl) _ _ rfl rfl rfl
              obtain rfl : u29 = .tuple #[.int .i64 (Wd.nOf (bop false (cof x p.ns p.cs) (cof x q.ns q.cs))), .int .i64 (Wd.eOf (bop false (cof x p.ns p.cs) (cof x q.ns q.cs)))] := g29
              have h29 := eval_tmp9 e29
              unfold Oper.wp
              simp only [execOp, h29]
              go_simp
              exact hK _ _ (fun d hd => by cases (show some 45 = some d from hd); exact rfl) (hrr _)
            · have ho' : some _ = some o := hk
              cases ho'
              refine rgstep_of fun a w6 hold hdep hrel K hK => ?_
              obtain ⟨u29, e29, g29⟩ := hdep _ (Array.mem_of_getElem? (i := 0) rfl) _ _ rfl rfl rfl
              obtain rfl : u29 = .tuple #[.int .i64 (Wd.nOf (bop false (cof x p.ns p.cs) (cof x q.ns q.cs))), .int .i64 (Wd.eOf (bop false (cof x p.ns p.cs) (cof x q.ns q.cs)))] := g29
              have h29 := eval_tmp9 e29
              unfold Oper.wp
              simp only [execOp, h29]
              go_simp
              exact hK _ _ (fun d hd => by cases (show some 46 = some d from hd); exact rfl) (hrr _)
            · have ho' : some _ = some o := hk
              cases ho'
              refine rgstep_of fun a w6 hold hdep hrel K hK => ?_
              obtain ⟨u45, e45, g45⟩ := hdep _ (Array.mem_of_getElem? (i := 0) rfl) _ _ rfl rfl rfl
              obtain rfl : u45 = .int .i64 (Wd.nOf (bop false (cof x p.ns p.cs) (cof x q.ns q.cs))) := g45
              have h45 := eval_tmp9 e45
              unfold Oper.wp
              simp only [execOp, h45]
              go_simp
              exact hK _ _ (fun d hd => by cases (show some 9 = some d from hd); exact rfl) (hrr _)
            · have ho' : some _ = some o := hk
              cases ho'
              refine rgstep_of fun a w6 hold hdep hrel K hK => ?_
              obtain ⟨u46, e46, g46⟩ := hdep _ (Array.mem_of_getElem? (i := 0) rfl) _ _ rfl rfl rfl
              obtain rfl : u46 = .int .i64 (Wd.eOf (bop false (cof x p.ns p.cs) (cof x q.ns q.cs))) := g46
              have h46 := eval_tmp9 e46
              unfold Oper.wp
              simp only [execOp, h46]
              go_simp
              exact hK _ _ (fun d hd => by cases (show some 10 = some d from hd); exact rfl) (hrr _)
          · intro vs w6 hrel hG
            have v30 : vs 30 = .agg (sum4 no co n c n d p.k 0) := hG 30 (by decide)
            have v31 : vs 31 = .pointer (some ⟨p7, 0, none⟩) := hG 31 (by decide)
            have v32 : vs 32 = .slice (some ⟨gn, on, none⟩) l7 c7 := hG 32 (by decide)
            have v33 : vs 33 = .int .i64 (k : Nat) := hG 33 (by decide)
            have v34 : vs 34 = .pointer (some ⟨gn, on + k, none⟩) := hG 34 (by decide)
            have v35 : vs 35 = .string x := hG 35 (by decide)
            have v36 : vs 36 = .int .i64 (cof x p.ns p.cs) := hG 36 (by decide)
            have v37 : vs 37 = .agg (sum4 no' co' n' c' n' d' q.k 0) := hG 37 (by decide)
            have v38 : vs 38 = .pointer (some ⟨p7, 0, none⟩) := hG 38 (by decide)
            have v39 : vs 39 = .slice (some ⟨gn, on, none⟩) l7 c7 := hG 39 (by decide)
            have v40 : vs 40 = .int .i64 (k : Nat) := hG 40 (by decide)
            have v41 : vs 41 = .pointer (some ⟨gn, on + k, none⟩) := hG 41 (by decide)
            have v42 : vs 42 = .string x := hG 42 (by decide)
            have v43 : vs 43 = .int .i64 (cof x q.ns q.cs) := hG 43 (by decide)
            have v44 : vs 44 = .tuple #[.int .i64 (Wd.nOf (bop false (cof x p.ns p.cs) (cof x q.ns q.cs))), .int .i64 (Wd.eOf (bop false (cof x p.ns p.cs) (cof x q.ns q.cs)))] := hG 44 (by decide)
            have v29 : vs 29 = .tuple #[.int .i64 (Wd.nOf (bop false (cof x p.ns p.cs) (cof x q.ns q.cs))), .int .i64 (Wd.eOf (bop false (cof x p.ns p.cs) (cof x q.ns q.cs)))] := hG 29 (by decide)
            have v45 : vs 45 = .int .i64 (Wd.nOf (bop false (cof x p.ns p.cs) (cof x q.ns q.cs))) := hG 45 (by decide)
            have v46 : vs 46 = .int .i64 (Wd.eOf (bop false (cof x p.ns p.cs) (cof x q.ns q.cs))) := hG 46 (by decide)
            have v9 : vs 9 = .int .i64 (Wd.nOf (bop false (cof x p.ns p.cs) (cof x q.ns q.cs))) := hG 9 (by decide)
            have v10 : vs 10 = .int .i64 (Wd.eOf (bop false (cof x p.ns p.cs) (cof x q.ns q.cs))) := hG 10 (by decide)
            simp only [putR, v30, v31, v32, v33, v34, v35, v36, v37, v38, v39, v40, v41, v42, v43, v44, v29, v45, v46, v9, v10]
            clear v30 v31 v32 v33 v34 v35 v36 v37 v38 v39 v40 v41 v42 v43 v44 v29 v45 v46 v9 v10 hG
            have hBx := bt2 (Below.refl wr.heap.size wr).drew hrel
            have PB2 := PB.keep hBx
            have QB2 := QB.keep hBx
            have hRk2 := hRk.keep hBx
            have hOk2 := owns_below hOk hBx
            have hX2 := hX.trans (Bux.of hBx)
            have hBr2 := hBr.trans (hBx.mono hBr.size)
            have hxc2 : w6.cell? ⟨gn, on + k, none⟩ = some (.string x) := (hBx.cell (p := ⟨gn, on + k, none⟩) hgn).trans hxc
            have hgn2 : gn < w6.heap.size := Nat.lt_of_lt_of_le hgn hBx.size
            clear LPb LQb LNb LP LQ LN LX OA OB hrr hrel HS PB QB hRk hOk hX hBx hBr hxc hgn
            obtain ⟨hxc, hgn⟩ := (⟨hxc2, hgn2⟩ : _ ∧ _)
            clear hxc2 hgn2
            have hrr : ∀ y : World, Below y.heap.size y y := fun y => Below.refl _ _
            have LPb : ∀ y : World, Below w6.drew.heap.size w6.drew y → Rb y w.heap.size (sum4 no co n c n d p.k 0) 32 := fun y hy => (PB2.keep (Below.refl _ _).drew).keep hy
            have LQb : ∀ y : World, Below w6.drew.heap.size w6.drew y → Rb y (w.heap.size + 1) (sum4 no' co' n' c' n' d' q.k 0) 32 := fun y hy => (QB2.keep (Below.refl _ _).drew).keep hy
            have LNb : ∀ y : World, Below w6.drew.heap.size w6.drew y → Rb y p7 (sum4 (some ⟨gn, on, none⟩) ck l7 c7 k dk 0 e) 32 := fun y hy => (hRk2.keep (Below.refl _ _).drew).keep hy
            have LP : ∀ y : World, Below w6.drew.heap.size w6.drew y → y.cell? ⟨w.heap.size, 0, none⟩ = some (.slice no n c) ∧ y.cell? ⟨w.heap.size, 1, none⟩ = some (.slice co n d) ∧ y.cell? ⟨w.heap.size, 2, none⟩ = some (.int .i64 p.k) ∧ y.cell? ⟨w.heap.size, 3, none⟩ = some (.int .i64 0) := fun y hy => ⟨(txcell (LPb y hy) 0 _ rfl).1, (txcell (LPb y hy) 1 _ rfl).1, (txcell (LPb y hy) 2 _ rfl).1, (txcell (LPb y hy) 3 _ rfl).1⟩
            have LQ : ∀ y : World, Below w6.drew.heap.size w6.drew y → y.cell? ⟨w.heap.size + 1, 0, none⟩ = some (.slice no' n' c') ∧ y.cell? ⟨w.heap.size + 1, 1, none⟩ = some (.slice co' n' d') ∧ y.cell? ⟨w.heap.size + 1, 2, none⟩ = some (.int .i64 q.k) ∧ y.cell? ⟨w.heap.size + 1, 3, none⟩ = some (.int .i64 0) := fun y hy => ⟨(txcell (LQb y hy) 0 _ rfl).1, (txcell (LQb y hy) 1 _ rfl).1, (txcell (LQb y hy) 2 _ rfl).1, (txcell (LQb y hy) 3 _ rfl).1⟩
            have LN : ∀ y : World, Below w6.drew.heap.size w6.drew y → y.cell? ⟨p7, 0, none⟩ = some (.slice (some ⟨gn, on, none⟩) l7 c7) := fun y hy => (txcell (LNb y hy) 0 _ rfl).1
            have LX : ∀ y : World, Below w6.drew.heap.size w6.drew y → y.cell? ⟨gn, on + k, none⟩ = some (.string x) := fun y hy => (hy.cell (p := ⟨gn, on + k, none⟩) hgn).trans (((Below.refl w6.heap.size w6).drew.cell (p := ⟨gn, on + k, none⟩) hgn).trans hxc)
            have OA : ∀ y : World, Below w6.drew.heap.size w6.drew y → Calls Tryz.prog 48 #[.agg (sum4 no co n c n d p.k 0), .string x] y fun e' w' => e' = .returned (.int .i64 (cof x p.ns p.cs)) ∧ Below y.heap.size y w' := fun y hy => of_at no co n c n d p.k 0 p.ns p.cs x y (h1.below (Nat.le_refl _) (bt2 hBr2.drew hy)) (h2.below (Nat.le_refl _) (bt2 hBr2.drew hy)) rfl
            have OB : ∀ y : World, Below w6.drew.heap.size w6.drew y → Calls Tryz.prog 48 #[.agg (sum4 no' co' n' c' n' d' q.k 0), .string x] y fun e' w' => e' = .returned (.int .i64 (cof x q.ns q.cs)) ∧ Below y.heap.size y w' := fun y hy => of_at no' co' n' c' n' d' q.k 0 q.ns q.cs x y (k1.below (Nat.le_refl _) (bt2 hBr2.drew hy)) (k2.below (Nat.le_refl _) (bt2 hBr2.drew hy)) rfl
            go_wp2_with (fail)
            refine wp_region_propsL (GT [(49, .agg (sum4 no co n c n d p.k 0)), (50, .pointer (some ⟨p7, 0, none⟩)), (51, .slice (some ⟨gn, on, none⟩) l7 c7), (52, .int .i64 (k : Nat)), (53, .pointer (some ⟨gn, on + k, none⟩)), (54, .string x), (55, .int .i64 (cof x p.ns p.cs)), (56, .agg (sum4 no' co' n' c' n' d' q.k 0)), (57, .pointer (some ⟨p7, 0, none⟩)), (58, .slice (some ⟨gn, on, none⟩) l7 c7), (59, .int .i64 (k : Nat)), (60, .pointer (some ⟨gn, on + k, none⟩)), (61, .string x), (62, .int .i64 (cof x q.ns q.cs)), (63, .tuple #[.int .i64 (Wd.nOf (bop true (cof x p.ns p.cs) (cof x q.ns q.cs))), .int .i64 (Wd.eOf (bop true (cof x p.ns p.cs) (cof x q.ns q.cs)))]), (48, .tuple #[.int .i64 (Wd.nOf (bop true (cof x p.ns p.cs) (cof x q.ns q.cs))), .int .i64 (Wd.eOf (bop true (cof x p.ns p.cs) (cof x q.ns q.cs)))]), (64, .int .i64 (Wd.nOf (bop true (cof x p.ns p.cs) (cof x q.ns q.cs)))), (65, .int .i64 (Wd.eOf (bop true (cof x p.ns p.cs) (cof x q.ns q.cs)))), (9, .int .i64 (Wd.nOf (bop true (cof x p.ns p.cs) (cof x q.ns q.cs)))), (10, .int .i64 (Wd.eOf (bop true (cof x p.ns p.cs) (cof x q.ns q.cs))))] (fun v y => True)) [49, 50, 51, 52, 53, 54, 55, 56, 57, 58, 59, 60, 61, 62, 63, 48, 64, 65, 9, 10] (by kernel_rfl) (by kernel_rfl) (by kernel_rfl) (gt_keep (Rel := fun x y => Below x.heap.size x y) (fun v y z h hb => h)) ?_ ?_
            · intro k' o hk
              have hk'' : k' < 20 := (Array.getElem?_eq_some_iff.1 hk).1
              rcases (show k' = 0 ∨ k' = 1 ∨ k' = 2 ∨ k' = 3 ∨ k' = 4 ∨ k' = 5 ∨ k' = 6 ∨ k' = 7 ∨ k' = 8 ∨ k' = 9 ∨ k' = 10 ∨ k' = 11 ∨ k' = 12 ∨ k' = 13 ∨ k' = 14 ∨ k' = 15 ∨ k' = 16 ∨ k' = 17 ∨ k' = 18 ∨ k' = 19 by omega) with rfl | rfl | rfl | rfl | rfl | rfl | rfl | rfl | rfl | rfl | rfl | rfl | rfl | rfl | rfl | rfl | rfl | rfl | rfl | rfl
              · have ho' : some _ = some o := hk
                cases ho'
                refine rgstep_of fun a w7 hold hdep hrel K hK => ?_
                have e3 := (hold 3 (by decide)).trans (show _ = some (.pointer (some ⟨w.heap.size, 0, none⟩)) from rfl)
                have h3 := eval_tmp9 e3
                unfold Oper.wp
                simp only [execOp, h3]
                obtain ⟨f0, f1, f2, f3⟩ := LP w7 hrel
                go_simp
                exact hK _ _ (fun d hd => by cases (show some 49 = some d from hd); exact rfl) (hrr _)
              · have ho' : some _ = some o := hk
                cases ho'
                refine rgstep_of fun a w7 hold hdep hrel K hK => ?_
                have e7 := (hold 7 (by decide)).trans (show _ = some (.pointer (some ⟨p7, 0, none⟩)) from rfl)
                have h7 := eval_tmp9 e7
                unfold Oper.wp
                simp only [execOp, h7]
                go_simp
                exact hK _ _ (fun d hd => by cases (show some 50 = some d from hd); exact rfl) (hrr _)
              · have ho' : some _ = some o := hk
                cases ho'
                refine rgstep_of fun a w7 hold hdep hrel K hK => ?_
                obtain ⟨u50, e50, g50⟩ := hdep _ (Array.mem_of_getElem? (i := 0) rfl) _ _ rfl rfl rfl
                obtain rfl : u50 = .pointer (some ⟨p7, 0, none⟩) := g50
                have h50 := eval_tmp9 e50
                unfold Oper.wp
                simp only [execOp, h50]
                have f0 := LN w7 hrel
                go_simp
                exact hK _ _ (fun d hd => by cases (show some 51 = some d from hd); exact rfl) (hrr _)
              · have ho' : some _ = some o := hk
                cases ho'
                refine rgstep_of fun a w7 hold hdep hrel K hK => ?_
                have e8 := (hold 8 (by decide)).trans (show _ = some (.int .i64 (k : Nat)) from rfl)
                have h8 := eval_tmp9 e8
                unfold Oper.wp
                simp only [execOp, h8]
                go_simp
                exact hK _ _ (fun d hd => by cases (show some 52 = some d from hd); exact rfl) (hrr _)
              · have ho' : some _ = some o := hk
                cases ho'
                refine rgstep_of fun a w7 hold hdep hrel K hK => ?_
                obtain ⟨u51, e51, g51⟩ := hdep _ (Array.mem_of_getElem? (i := 0) rfl) _ _ rfl rfl rfl
                obtain rfl : u51 = .slice (some ⟨gn, on, none⟩) l7 c7 := g51
                have h51 := eval_tmp9 e51
                obtain ⟨u52, e52, g52⟩ := hdep _ (Array.mem_of_getElem? (i := 1) rfl) _ _ rfl rfl rfl
                obtain rfl : u52 = .int .i64 (k : Nat) := g52
                have h52 := eval_tmp9 e52
                unfold Oper.wp
                simp only [execOp, h51, h52]
                go_simp
                exact hK _ _ (fun d hd => by cases (show some 53 = some d from hd); exact rfl) (hrr _)
              · have ho' : some _ = some o := hk
                cases ho'
                refine rgstep_of fun a w7 hold hdep hrel K hK => ?_
                obtain ⟨u53, e53, g53⟩ := hdep _ (Array.mem_of_getElem? (i := 0) rfl) _ _ rfl rfl rfl
                obtain rfl : u53 = .pointer (some ⟨gn, on + k, none⟩) := g53
                have h53 := eval_tmp9 e53
                unfold Oper.wp
                simp only [execOp, h53]
                have f0 := LX w7 hrel
                go_simp
                exact hK _ _ (fun d hd => by cases (show some 54 = some d from hd); exact rfl) (hrr _)
              · have ho' : some _ = some o := hk
                cases ho'
                refine rgstep_of fun a w7 hold hdep hrel K hK => ?_
                obtain ⟨u49, e49, g49⟩ := hdep _ (Array.mem_of_getElem? (i := 0) rfl) _ _ rfl rfl rfl
                obtain rfl : u49 = .agg (sum4 no co n c n d p.k 0) := g49
                have h49 := eval_tmp9 e49
                obtain ⟨u54, e54, g54⟩ := hdep _ (Array.mem_of_getElem? (i := 1) rfl) _ _ rfl rfl rfl
                obtain rfl : u54 = .string x := g54
                have h54 := eval_tmp9 e54
                unfold Oper.wp
                simp only [execOp, h49, h54]
                go_simp
                refine (OA w7 hrel).mono ?_
                rintro e w8 ⟨rfl, hB7⟩
                exact hK _ _ (fun d hd => by cases (show some 55 = some d from hd); exact rfl) hB7
              · have ho' : some _ = some o := hk
                cases ho'
                refine rgstep_of fun a w7 hold hdep hrel K hK => ?_
                have e4 := (hold 4 (by decide)).trans (show _ = some (.pointer (some ⟨w.heap.size + 1, 0, none⟩)) from rfl)
                have h4 := eval_tmp9 e4
                unfold Oper.wp
                simp only [execOp, h4]
                obtain ⟨f0, f1, f2, f3⟩ := LQ w7 hrel
                go_simp
                exact hK _ _ (fun d hd => by cases (show some 56 = some d from hd); exact rfl) (hrr _)
              · have ho' : some _ = some o := hk
                cases ho'
                refine rgstep_of fun a w7 hold hdep hrel K hK => ?_
                have e7 := (hold 7 (by decide)).trans (show _ = some (.pointer (some ⟨p7, 0, none⟩)) from rfl)
                have h7 := eval_tmp9 e7
                unfold Oper.wp
                simp only [execOp, h7]
                go_simp
                exact hK _ _ (fun d hd => by cases (show some 57 = some d from hd); exact rfl) (hrr _)
              · have ho' : some _ = some o := hk
                cases ho'
                refine rgstep_of fun a w7 hold hdep hrel K hK => ?_
                obtain ⟨u57, e57, g57⟩ := hdep _ (Array.mem_of_getElem? (i := 0) rfl) _ _ rfl rfl rfl
                obtain rfl : u57 = .pointer (some ⟨p7, 0, none⟩) := g57
                have h57 := eval_tmp9 e57
                unfold Oper.wp
                simp only [execOp, h57]
                have f0 := LN w7 hrel
                go_simp
                exact hK _ _ (fun d hd => by cases (show some 58 = some d from hd); exact rfl) (hrr _)
              · have ho' : some _ = some o := hk
                cases ho'
                refine rgstep_of fun a w7 hold hdep hrel K hK => ?_
                have e8 := (hold 8 (by decide)).trans (show _ = some (.int .i64 (k : Nat)) from rfl)
                have h8 := eval_tmp9 e8
                unfold Oper.wp
                simp only [execOp, h8]
                go_simp
                exact hK _ _ (fun d hd => by cases (show some 59 = some d from hd); exact rfl) (hrr _)
              · have ho' : some _ = some o := hk
                cases ho'
                refine rgstep_of fun a w7 hold hdep hrel K hK => ?_
                obtain ⟨u58, e58, g58⟩ := hdep _ (Array.mem_of_getElem? (i := 0) rfl) _ _ rfl rfl rfl
                obtain rfl : u58 = .slice (some ⟨gn, on, none⟩) l7 c7 := g58
                have h58 := eval_tmp9 e58
                obtain ⟨u59, e59, g59⟩ := hdep _ (Array.mem_of_getElem? (i := 1) rfl) _ _ rfl rfl rfl
                obtain rfl : u59 = .int .i64 (k : Nat) := g59
                have h59 := eval_tmp9 e59
                unfold Oper.wp
                simp only [execOp, h58, h59]
                go_simp
                exact hK _ _ (fun d hd => by cases (show some 60 = some d from hd); exact rfl) (hrr _)
              · have ho' : some _ = some o := hk
                cases ho'
                refine rgstep_of fun a w7 hold hdep hrel K hK => ?_
                obtain ⟨u60, e60, g60⟩ := hdep _ (Array.mem_of_getElem? (i := 0) rfl) _ _ rfl rfl rfl
                obtain rfl : u60 = .pointer (some ⟨gn, on + k, none⟩) := g60
                have h60 := eval_tmp9 e60
                unfold Oper.wp
                simp only [execOp, h60]
                have f0 := LX w7 hrel
                go_simp
                exact hK _ _ (fun d hd => by cases (show some 61 = some d from hd); exact rfl) (hrr _)
              · have ho' : some _ = some o := hk
                cases ho'
                refine rgstep_of fun a w7 hold hdep hrel K hK => ?_
                obtain ⟨u56, e56, g56⟩ := hdep _ (Array.mem_of_getElem? (i := 0) rfl) _ _ rfl rfl rfl
                obtain rfl : u56 = .agg (sum4 no' co' n' c' n' d' q.k 0) := g56
                have h56 := eval_tmp9 e56
                obtain ⟨u61, e61, g61⟩ := hdep _ (Array.mem_of_getElem? (i := 1) rfl) _ _ rfl rfl rfl
                obtain rfl : u61 = .string x := g61
                have h61 := eval_tmp9 e61
                unfold Oper.wp
                simp only [execOp, h56, h61]
                go_simp
                refine (OB w7 hrel).mono ?_
                rintro e w8 ⟨rfl, hB7⟩
                exact hK _ _ (fun d hd => by cases (show some 62 = some d from hd); exact rfl) hB7
              · have ho' : some _ = some o := hk
                cases ho'
                refine rgstep_of fun a w7 hold hdep hrel K hK => ?_
                obtain ⟨u55, e55, g55⟩ := hdep _ (Array.mem_of_getElem? (i := 0) rfl) _ _ rfl rfl rfl
                obtain rfl : u55 = .int .i64 (cof x p.ns p.cs) := g55
                have h55 := eval_tmp9 e55
                obtain ⟨u62, e62, g62⟩ := hdep _ (Array.mem_of_getElem? (i := 1) rfl) _ _ rfl rfl rfl
                obtain rfl : u62 = .int .i64 (cof x q.ns q.cs) := g62
                have h62 := eval_tmp9 e62
                unfold Oper.wp
                simp only [execOp, h55, h62]
                go_simp
                refine (SB w7).mono ?_
                rintro e w8 ⟨rfl, hB7⟩
                exact hK _ _ (fun d hd => by cases (show some 63 = some d from hd); exact rfl) hB7
              · have ho' : some _ = some o := hk
                cases ho'
                refine rgstep_of fun a w7 hold hdep hrel K hK => ?_
                obtain ⟨u63, e63, g63⟩ := hdep _ (Array.mem_of_getElem? (i := 0) rfl) _ _ rfl rfl rfl
                obtain rfl : u63 = .tuple #[.int .i64 (Wd.nOf (bop true (cof x p.ns p.cs) (cof x q.ns q.cs))), .int .i64 (Wd.eOf (bop true (cof x p.ns p.cs) (cof x q.ns q.cs)))] := g63
                have h63 := eval_tmp9 e63
                unfold Oper.wp
                simp only [execOp, h63]
                go_simp
                exact hK _ _ (fun d hd => by cases (show some 48 = some d from hd); exact rfl) (hrr _)
              · have ho' : some _ = some o := hk
                cases ho'
                refine rgstep_of fun a w7 hold hdep hrel K hK => ?_
                obtain ⟨u48, e48, g48⟩ := hdep _ (Array.mem_of_getElem? (i := 0) rfl) _ _ rfl rfl rfl
                obtain rfl : u48 = .tuple #[.int .i64 (Wd.nOf (bop true (cof x p.ns p.cs) (cof x q.ns q.cs))), .int .i64 (Wd.eOf (bop true (cof x p.ns p.cs) (cof x q.ns q.cs)))] := g48
                have h48 := eval_tmp9 e48
                unfold Oper.wp
                simp only [execOp, h48]
                go_simp
                exact hK _ _ (fun d hd => by cases (show some 64 = some d from hd); exact rfl) (hrr _)
              · have ho' : some _ = some o := hk
                cases ho'
                refine rgstep_of fun a w7 hold hdep hrel K hK => ?_
                obtain ⟨u48, e48, g48⟩ := hdep _ (Array.mem_of_getElem? (i := 0) rfl) _ _ rfl rfl rfl
                obtain rfl : u48 = .tuple #[.int .i64 (Wd.nOf (bop true (cof x p.ns p.cs) (cof x q.ns q.cs))), .int .i64 (Wd.eOf (bop true (cof x p.ns p.cs) (cof x q.ns q.cs)))] := g48
                have h48 := eval_tmp9 e48
                unfold Oper.wp
                simp only [execOp, h48]
                go_simp
                exact hK _ _ (fun d hd => by cases (show some 65 = some d from hd); exact rfl) (hrr _)
              · have ho' : some _ = some o := hk
                cases ho'
                refine rgstep_of fun a w7 hold hdep hrel K hK => ?_
                obtain ⟨u64, e64, g64⟩ := hdep _ (Array.mem_of_getElem? (i := 0) rfl) _ _ rfl rfl rfl
                obtain rfl : u64 = .int .i64 (Wd.nOf (bop true (cof x p.ns p.cs) (cof x q.ns q.cs))) := g64
                have h64 := eval_tmp9 e64
                unfold Oper.wp
                simp only [execOp, h64]
                go_simp
                exact hK _ _ (fun d hd => by cases (show some 9 = some d from hd); exact rfl) (hrr _)
              · have ho' : some _ = some o := hk
                cases ho'
                refine rgstep_of fun a w7 hold hdep hrel K hK => ?_
                obtain ⟨u65, e65, g65⟩ := hdep _ (Array.mem_of_getElem? (i := 0) rfl) _ _ rfl rfl rfl
                obtain rfl : u65 = .int .i64 (Wd.eOf (bop true (cof x p.ns p.cs) (cof x q.ns q.cs))) := g65
                have h65 := eval_tmp9 e65
                unfold Oper.wp
                simp only [execOp, h65]
                go_simp
                exact hK _ _ (fun d hd => by cases (show some 10 = some d from hd); exact rfl) (hrr _)
            · intro vs w7 hrel hG
              have v49 : vs 49 = .agg (sum4 no co n c n d p.k 0) := hG 49 (by decide)
              have v50 : vs 50 = .pointer (some ⟨p7, 0, none⟩) := hG 50 (by decide)
              have v51 : vs 51 = .slice (some ⟨gn, on, none⟩) l7 c7 := hG 51 (by decide)
              have v52 : vs 52 = .int .i64 (k : Nat) := hG 52 (by decide)
              have v53 : vs 53 = .pointer (some ⟨gn, on + k, none⟩) := hG 53 (by decide)
              have v54 : vs 54 = .string x := hG 54 (by decide)
              have v55 : vs 55 = .int .i64 (cof x p.ns p.cs) := hG 55 (by decide)
              have v56 : vs 56 = .agg (sum4 no' co' n' c' n' d' q.k 0) := hG 56 (by decide)
              have v57 : vs 57 = .pointer (some ⟨p7, 0, none⟩) := hG 57 (by decide)
              have v58 : vs 58 = .slice (some ⟨gn, on, none⟩) l7 c7 := hG 58 (by decide)
              have v59 : vs 59 = .int .i64 (k : Nat) := hG 59 (by decide)
              have v60 : vs 60 = .pointer (some ⟨gn, on + k, none⟩) := hG 60 (by decide)
              have v61 : vs 61 = .string x := hG 61 (by decide)
              have v62 : vs 62 = .int .i64 (cof x q.ns q.cs) := hG 62 (by decide)
              have v63 : vs 63 = .tuple #[.int .i64 (Wd.nOf (bop true (cof x p.ns p.cs) (cof x q.ns q.cs))), .int .i64 (Wd.eOf (bop true (cof x p.ns p.cs) (cof x q.ns q.cs)))] := hG 63 (by decide)
              have v48 : vs 48 = .tuple #[.int .i64 (Wd.nOf (bop true (cof x p.ns p.cs) (cof x q.ns q.cs))), .int .i64 (Wd.eOf (bop true (cof x p.ns p.cs) (cof x q.ns q.cs)))] := hG 48 (by decide)
              have v64 : vs 64 = .int .i64 (Wd.nOf (bop true (cof x p.ns p.cs) (cof x q.ns q.cs))) := hG 64 (by decide)
              have v65 : vs 65 = .int .i64 (Wd.eOf (bop true (cof x p.ns p.cs) (cof x q.ns q.cs))) := hG 65 (by decide)
              have v9 : vs 9 = .int .i64 (Wd.nOf (bop true (cof x p.ns p.cs) (cof x q.ns q.cs))) := hG 9 (by decide)
              have v10 : vs 10 = .int .i64 (Wd.eOf (bop true (cof x p.ns p.cs) (cof x q.ns q.cs))) := hG 10 (by decide)
              simp only [putR, v49, v50, v51, v52, v53, v54, v55, v56, v57, v58, v59, v60, v61, v62, v63, v48, v64, v65, v9, v10]
              clear v49 v50 v51 v52 v53 v54 v55 v56 v57 v58 v59 v60 v61 v62 v63 v48 v64 v65 v9 v10 hG
              have hBx := bt2 (Below.refl w6.heap.size w6).drew hrel
              have hRx := hRk2.keep hBx
              have hOx := owns_below hOk2 hBx
              have hXx := hX2.trans (Bux.of hBx)
              clear LPb LQb LNb LP LQ LN LX OA OB hrr hrel AD SB PB2 QB2 hRk2 hOk2 hX2 hBx
              have hw6' : p7 < w7.heap.size := (Array.getElem?_eq_some_iff.1 hRx).1
              generalize Wd.nOf (bop true (cof x p.ns p.cs) (cof x q.ns q.cs)) = vv at hUs ⊢
              generalize Wd.eOf (bop true (cof x p.ns p.cs) (cof x q.ns q.cs)) = ee at hFs ⊢
              go_wp2_with (fail)
              go_simp
              generalize hee : (if ee = 0 then e else 91) = ex at hFs
              have hRd := hRx.keep (Below.refl w7.heap.size w7).drew
              have hI0 : I8 wc p7 (some ⟨gn, on, none⟩) ck l7 c7 k dk e ex ((us9 true p q T).take k) w7.drew := ⟨hXx.trans (Bux.of (Below.refl w7.heap.size w7).drew), ⟨e, .inl rfl, hRd⟩, hOx.drew⟩
              have NT : Hid (∀ y : World, I8 wc p7 (some ⟨gn, on, none⟩) ck l7 c7 k dk e ex ((us9 true p q T).take k) y → Calls Tryz.prog 27 #[.pointer (some ⟨p7, 0, none⟩), .int .i64 vv, .int .i64 ee] y fun en w' => en = .returned (.int .i64 vv) ∧ Rb w' p7 (sum4 (some ⟨gn, on, none⟩) ck l7 c7 k dk 0 ex) 32 ∧ Bux p7 y w') := by
                intro y hy
                obtain ⟨e', he', hR⟩ := hy.blk
                have hx : (if ee = 0 then e' else 91) = ex := by
                  rcases he' with rfl | rfl
                  · exact hee
                  · by_cases h0 : ee = 0
                    · rw [if_pos h0]
                    · rw [if_neg h0] at hee ⊢; exact hee
                have := note_any p7 vv ee (some ⟨gn, on, none⟩) ck l7 c7 k dk 0 e' y hR
                rw [hx] at this
                exact this
              have hrr : ∀ y : World, Rel8 wc p7 (some ⟨gn, on, none⟩) ck l7 c7 k dk e ex ((us9 true p q T).take k) vv y y := fun y => Rel8.refl y
              refine wp_region_lastL (GS [(66, .pointer (some ⟨p7, 1, none⟩)), (67, .slice ck k dk), (68, .int .i64 vv), (69, .int .i64 ee), (73, .pointer (some ⟨p7, 1, none⟩))] [(70, P70 p7 (some ⟨gn, on, none⟩) ck l7 c7 k dk ex vv), (71, P71 p7 (some ⟨gn, on, none⟩) ck l7 c7 k dk ex vv), (72, P72 wc p7 (some ⟨gn, on, none⟩) ck l7 c7 k dk e ex ((us9 true p q T).take k) vv)]) (Rel8 wc p7 (some ⟨gn, on, none⟩) ck l7 c7 k dk e ex ((us9 true p q T).take k) vv) [66, 67, 68, 69, 70, 71, 72, 73] 8 (by kernel_rfl) (by kernel_rfl) hrr (fun x y z h k => h.trans _ _ _ k) (by kernel_rfl) (by kernel_rfl) ?_ ?_ ?_
              · refine gs_keep ?_
                intro q hq v y z hP hb
                simp only [List.mem_cons, List.not_mem_nil, or_false] at hq
                rcases hq with rfl | rfl | rfl
                · exact P70.keep hP hb
                · exact P71.keep hP hb
                · exact P72.keep hP hb
              · intro k o hk ho
                have hk' : k < 8 := hk
                rcases (show k = 0 ∨ k = 1 ∨ k = 2 ∨ k = 3 ∨ k = 4 ∨ k = 5 ∨ k = 6 ∨ k = 7 by omega) with rfl | rfl | rfl | rfl | rfl | rfl | rfl | rfl
                · have ho' : some _ = some o := ho
                  cases ho'
                  refine rlstep_of fun a w6 hold hdep hrel K hK => ?_
                  have e7 := (hold 7 (by decide)).trans (show _ = some (.pointer (some ⟨p7, 0, none⟩)) from rfl)
                  have h7 := eval_tmp9 e7
                  unfold Oper.wp
                  simp only [execOp, h7]
                  go_simp
                  exact hK _ _ (fun d hd => by cases (show some 66 = some d from hd); exact rfl) (hrr _)
                · have ho' : some _ = some o := ho
                  cases ho'
                  refine rlstep_of fun a w6 hold hdep hrel K hK => ?_
                  obtain ⟨u66, e66, g66⟩ := hdep _ (Array.mem_of_getElem? (i := 0) rfl) _ _ rfl rfl rfl
                  obtain rfl : u66 = .pointer (some ⟨p7, 1, none⟩) := g66
                  have h66 := eval_tmp9 e66
                  unfold Oper.wp
                  simp only [execOp, h66]
                  have f0 := (hrel.inv hI0).c1
                  go_simp
                  exact hK _ _ (fun d hd => by cases (show some 67 = some d from hd); exact rfl) (hrr _)
                · have ho' : some _ = some o := ho
                  cases ho'
                  refine rlstep_of fun a w6 hold hdep hrel K hK => ?_
                  have e9 := (hold 9 (by decide)).trans (show _ = some (.int .i64 vv) from rfl)
                  have h9 := eval_tmp9 e9
                  unfold Oper.wp
                  simp only [execOp, h9]
                  go_simp
                  exact hK _ _ (fun d hd => by cases (show some 68 = some d from hd); exact rfl) (hrr _)
                · have ho' : some _ = some o := ho
                  cases ho'
                  refine rlstep_of fun a w6 hold hdep hrel K hK => ?_
                  have e10 := (hold 10 (by decide)).trans (show _ = some (.int .i64 ee) from rfl)
                  have h10 := eval_tmp9 e10
                  unfold Oper.wp
                  simp only [execOp, h10]
                  go_simp
                  exact hK _ _ (fun d hd => by cases (show some 69 = some d from hd); exact rfl) (hrr _)
                · have ho' : some _ = some o := ho
                  cases ho'
                  refine rlstep_of fun a w6 hold hdep hrel K hK => ?_
                  have e7 := (hold 7 (by decide)).trans (show _ = some (.pointer (some ⟨p7, 0, none⟩)) from rfl)
                  have h7 := eval_tmp9 e7
                  obtain ⟨u68, e68, g68⟩ := hdep _ (Array.mem_of_getElem? (i := 0) rfl) _ _ rfl rfl rfl
                  obtain rfl : u68 = .int .i64 vv := g68
                  have h68 := eval_tmp9 e68
                  obtain ⟨u69, e69, g69⟩ := hdep _ (Array.mem_of_getElem? (i := 1) rfl) _ _ rfl rfl rfl
                  obtain rfl : u69 = .int .i64 ee := g69
                  have h69 := eval_tmp9 e69
                  unfold Oper.wp
                  simp only [execOp, h7, h68, h69]
                  go_simp
                  refine (NT.out w6 (hrel.inv hI0)).mono ?_
                  rintro en w8 ⟨rfl, hR8, hX8⟩
                  exact hK _ _ (fun d hd => by cases (show some 70 = some d from hd); exact ⟨rfl, hR8⟩) (Rel8.note hp7s hX8 hR8)
                · have ho' : some _ = some o := ho
                  cases ho'
                  refine rlstep_of fun a w6 hold hdep hrel K hK => ?_
                  obtain ⟨u70, e70, g70⟩ := hdep _ (Array.mem_of_getElem? (i := 0) rfl) _ _ rfl rfl rfl
                  obtain ⟨rfl, q70⟩ := (show P70 p7 (some ⟨gn, on, none⟩) ck l7 c7 k dk ex vv u70 w6 from g70)
                  have h70 := eval_tmp9 e70
                  unfold Oper.wp
                  simp only [execOp, h70]
                  have hI6 := hrel.inv hI0
                  go_simp
                  exact hK _ _ (fun d hd => by cases (show some 71 = some d from hd); exact ⟨w6.heap.size, rfl, cell_new1 _ _ _, (by have := (Array.getElem?_eq_some_iff.1 q70).1; omega), (fun ad he => by have := (hI6.row_ne ad he).2; omega), q70.keep (bal w6 _)⟩) (Rel8.of (bal w6 _))
                · have ho' : some _ = some o := ho
                  cases ho'
                  refine rlstep_of fun a w6 hold hdep hrel K hK => ?_
                  obtain ⟨u67, e67, g67⟩ := hdep _ (Array.mem_of_getElem? (i := 0) rfl) _ _ rfl rfl rfl
                  obtain rfl : u67 = .slice ck k dk := g67
                  have h67 := eval_tmp9 e67
                  obtain ⟨u71, e71, g71⟩ := hdep _ (Array.mem_of_getElem? (i := 1) rfl) _ _ rfl rfl rfl
                  obtain ⟨x71, rfl, q71⟩ := (show P71 p7 (some ⟨gn, on, none⟩) ck l7 c7 k dk ex vv u71 w6 from g71)
                  have h71 := eval_tmp9 e71
                  have hI6 := hrel.inv hI0
                  refine op_pushE w6 wc.heap.size (.tmp 67) (.tmp 71) rfl ck k dk ((us9 true p q T).take k) h67 x71 vv h71 hI6.own q71.1 hI6.bux.size (by omega) ?_
                  intro a' c' w8 hO8 hL8 hb8 ho8
                  have hr8 := Rel8.push (p := p7) (a := (some ⟨gn, on, none⟩)) (l := l7) (c := c7) (k := k) (dk := dk) (e := e) (ex := ex) hp7s hL8 hb8 ho8
                  exact hK _ _ (fun d hd => by cases (show some 72 = some d from hd); exact ⟨a', c', rfl, hO8, hr8.noted q71.2.2.2, hr8.inv hI6⟩) hr8
                · have ho' : some _ = some o := ho
                  cases ho'
                  refine rlstep_of fun a w6 hold hdep hrel K hK => ?_
                  have e7 := (hold 7 (by decide)).trans (show _ = some (.pointer (some ⟨p7, 0, none⟩)) from rfl)
                  have h7 := eval_tmp9 e7
                  unfold Oper.wp
                  simp only [execOp, h7]
                  go_simp
                  exact hK _ _ (fun d hd => by cases (show some 73 = some d from hd); exact rfl) (hrr _)
              · intro vs w6 o' ho' hrel hG
                have v66 : vs 66 = .pointer (some ⟨p7, 1, none⟩) := hG 66 (by decide)
                have v67 : vs 67 = .slice ck k dk := hG 67 (by decide)
                have v68 : vs 68 = .int .i64 vv := hG 68 (by decide)
                have v69 : vs 69 = .int .i64 ee := hG 69 (by decide)
                have v73 : vs 73 = .pointer (some ⟨p7, 1, none⟩) := hG 73 (by decide)
                obtain ⟨c9, d9, v72, hO9, hR9, hI9⟩ := (show P72 wc p7 (some ⟨gn, on, none⟩) ck l7 c7 k dk e ex ((us9 true p q T).take k) vv (vs 72) w6 from hG 72 (by decide))
                obtain ⟨x70, v70⟩ : ∃ x, vs 70 = x := ⟨_, rfl⟩
                obtain ⟨x71, v71⟩ : ∃ x, vs 71 = x := ⟨_, rfl⟩
                have ho'' : some _ = some o' := ho'
                cases ho''
                have hcf := c1_of hR9
                have d3 := hcf.1
                have f3 := hcf.2
                clear hcf
                have hX9 := hI9.bux.set 1 (.slice c9 (k + 1) d9)
                replace hO9 := owns_other (X := p7) hO9 (fun g hg => by have := (hO9.lt g hg).1; omega) 1 (.slice c9 (k + 1) d9)
                replace hR9 : Rb (w6.setCell ⟨p7, 1, none⟩ (.slice c9 (k + 1) d9)) p7 (sum4 (some ⟨gn, on, none⟩) c9 l7 c7 (k + 1) d9 0 ex) 32 := c1_set hR9
                simp only [putR, v66, v67, v68, v69, v70, v71, v72, v73]
                clear v66 v67 v68 v69 v70 v71 v72 v73 hG hrel hI9 NT hI0 hRd
                unfold Oper.wp
                simp only [execOp]
                go_simp
                clear d3 f3
                generalize w6.setCell ⟨p7, 1, none⟩ (.slice c9 (k + 1) d9) = w8 at hR9 hO9 hX9 ⊢
                go_wp2
                go_roundw
                case rel => exact ⟨k + 1, c9, d9, ex, by omega, by go_num, hR9, by rw [hUs.out] at hO9; exact hO9, hX9, hFs⟩
                case measure => simp [intOf]; omega
        · obtain rfl : k = l7 := by omega
          have hNr := rds_bx8 hN7 hX hne7
          have hKr := bk_bux hK7 hX hne7
          rw [show (us9 true p q T).take k = us9 true p q T from List.take_of_length_le (by simp [us9, HL.out])] at hOk
          have ZB := ZA.but hX hne2
          have pk : wr.cell? ⟨w.heap.size, 2, none⟩ = some (.int .i64 p.k) := (txcell (vs := sum4 no co n c n d p.k 0) PB 2 _ rfl).1
          have qk : wr.cell? ⟨w.heap.size + 1, 2, none⟩ = some (.int .i64 q.k) := (txcell (vs := sum4 no' co' n' c' n' d' q.k 0) QB 2 _ rfl).1
          have CA : Hid (∀ y : World, Calls Tryz.prog 47 #[.int .i64 p.k, .int .i64 q.k] y fun e' w' => e' = .returned (.tuple #[.int .i64 (Wd.nOf (bop false p.k q.k)), .int .i64 (Wd.eOf (bop false p.k q.k))]) ∧ Below y.heap.size y w') := fun y => Wd.ref_add _ _ y hpk.1 hpk.2 hqk.1 hqk.2
          have CS : Hid (∀ y : World, Calls Tryz.prog 26 #[.int .i64 p.k, .int .i64 q.k] y fun e' w' => e' = .returned (.tuple #[.int .i64 (Wd.nOf (bop true p.k q.k)), .int .i64 (Wd.eOf (bop true p.k q.k))]) ∧ Below y.heap.size y w') := fun y => Wd.ref_sub _ _ y hpk.1 hpk.2 hqk.1 hqk.2
          clear HADD HSUB hpk hqk PA QA ZA hR7 hN7 hBw
          go_wp2_with (fail)
          refine (CA.out wr).mono ?_
          rintro en w5 ⟨rfl, hB5⟩
          clear n0 pk qk
          have pk5 : w5.cell? ⟨w.heap.size, 2, none⟩ = some (.int .i64 p.k) := (txcell (vs := sum4 no co n c n d p.k 0) (PB.keep hB5) 2 _ rfl).1
          have qk5 : w5.cell? ⟨w.heap.size + 1, 2, none⟩ = some (.int .i64 q.k) := (txcell (vs := sum4 no' co' n' c' n' d' q.k 0) (QB.keep hB5) 2 _ rfl).1
          go_wp2_with (fail)
          refine (CS.out w5).mono ?_
          rintro en w5b ⟨rfl, hB5b⟩
          clear pk5 qk5
          replace hB5 := bt2 hB5 hB5b
          clear hB5b
          have hw5b := hB5.size
          have hFin := mkHid (fun (w' : World) (hN : RdS w' a7 k c7 T) (hK : Bk w' a7 9) (hZ : w'.ownsRow w.heap.size 2 1 (.slice ck k dk) k (cellsZ (us9 true p q T))) => fin9 (less := true) (p := p) (q := q) HT.out (by rw [HL.out]; exact hFt.out) hN hK hZ)
          have hR5 := hRk.keep hB5
          have hO5 := owns_below hOk hB5
          have hN5 := hNr.below (Nat.le_refl _) hB5
          have hK5 := hKr.below hB5
          have ZB5 := ZB.keep hB5
          have hB05 := bt2 hBr hB5
          have hx5 := hB5.size
          have hxr := hX.size
          clear hFt hRk hOk hNr hKr ZB hB5 hBr PB QB hX
          generalize Wd.nOf (bop true p.k q.k) = vv at hFin ⊢
          generalize Wd.eOf (bop true p.k q.k) = ee at hFin ⊢
          go_wp2_with (fail)
          have NT := mkHid (note_any p7 vv ee a7 ck k c7 k dk 0 e w5b hR5)
          generalize (if ee = 0 then e else 91) = ex at hFin NT
          refine NT.out.mono ?_
          rintro en w6 ⟨rfl, hR6, hX6⟩
          obtain ⟨c2, f2⟩ := c2_of hR6
          have hO6 := owns_but hO5 hX6 hp7s
          have hN6 := rds_bx8 hN5 hX6 hne7
          have hK6 := bk_bux hK5 hX6 hne7
          have ZB6 := ZB5.but hX6 hne2
          have hB06 := hB05.trans (hX6.below (B := w.heap.size) (by omega) (by omega))
          have hx6 := hX6.size
          have hR7 := c2_set (v := vv) hR6
          have hO7 := owns_other (X := p7) hO6 (fun g hg => by have := (hO6.lt g hg).1; omega) 2 (.int .i64 vv)
          have hN7 := rds_other hN6 hne7 2 (.int .i64 vv)
          have ZB7 := ZB6.other hne2 2 (.int .i64 vv)
          have hB07 := hB06.setCell (p := ⟨p7, 2, none⟩) (show w.heap.size ≤ p7 by omega) (.int .i64 vv)
          obtain ⟨m0, m1, m2, m3⟩ := cells4 hR7
          obtain ⟨⟨z0, y0⟩, ⟨z1, y1⟩, ⟨z2, y2⟩, ⟨z3, y3⟩⟩ := cellsZ4 ZB7
          have hR9 := rb_four ZB7 rfl (.slice a7 k c7) (.slice ck k dk) (.int .i64 vv) (.int .i64 ex)
          have hO9 := owns_other (X := w.heap.size + 2) (owns_st3 (X := w.heap.size + 2) hO7 (fun g hg => by have := (hO7.lt g hg).1; omega) (.slice a7 k c7) (.slice ck k dk) (.int .i64 vv)) (fun g hg => by have := (hO7.lt g hg).1; omega) 3 (.int .i64 ex)
          have hK9 := bk_set (bk_set (bk_set (bk_set (bk_set hK6 hne7 2 (.int .i64 vv)) hneZ 0 (.slice a7 k c7)) hneZ 1 (.slice ck k dk)) hneZ 2 (.int .i64 vv)) hneZ 3 (.int .i64 ex)
          have hN9 := rds_other (rds_st3 hN7 hneZ (.slice a7 k c7) (.slice ck k dk) (.int .i64 vv)) hneZ 3 (.int .i64 ex)
          have hB9 := (bel_st3 hB07 (show w.heap.size ≤ w.heap.size + 2 by omega) (.slice a7 k c7) (.slice ck k dk) (.int .i64 vv)).setCell (p := ⟨w.heap.size + 2, 3, none⟩) (show w.heap.size ≤ w.heap.size + 2 by omega) (.int .i64 ex)
          have HF := mkHid (hFin.out _ hN9 hK9 (owns_base hO9 (by omega)))
          clear hFin hO5 hO6 hO7 hO9 hN5 hN6 hN7 hN9 hK5 hK6 hK9 ZB5 ZB6 hB05 hB06 hB07 NT hX6
          go_wp2_with (fail)
          obtain ⟨k0, k1, k2, k3⟩ := cells4 hR9
          exact bodyPost_ret (v := .agg (sum4 a7 ck k c7 k dk vv ex)) (by simp [results, Tryz.results25, go_sem, k0, k1, k2, k3]) rfl ⟨_, rfl, HF.out, hB9⟩
end Go.Proofs.YtiapkblebbcfbaaGreat.Gl
