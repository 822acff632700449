/- BitsPlays: the walk. -/
import Derived.Test.YtholafecbmhhhaaPlayE
import Derived.Deep.QuietTactic
import Derived.BigQuiet
import Derived.Deep.DeepCutAuto
import Derived.Deep.CutBlock
namespace Go.Proofs.Ytholafecbmhhhaa.Dg
open Go.RowKit
set_option linter.unusedVariables false
theorem Try.infoP : (Try.prog.info? 29).map (fun i => (i.zero, i.size, i.bytes)) = some (some (.pointer none), 1, 8) := by kernel_rfl
theorem Try.infoS : (Try.prog.info? 35).map (fun i => (i.zero, i.size, i.bytes)) = some (some (.agg #[.slice none 0 0]), 1, 24) := by kernel_rfl
def nth3 (a b c : Int) (i : Nat) : Int := if i = 0 then a else if i = 1 then b else c
def OkK (k : Nat) (E : Nat → One) : Prop := ∀ i, i < k → (E i).T = bools (E i).C (E i).n
theorem madeP : (madeCells (Value.pointer none).cells (3 * 1)).toList = [.pointer none, .pointer none, .pointer none] := by
  show (madeCells #[Value.pointer none] 3).toList = _
  rw [toList_madeCells_one]; rfl
theorem madeS : (madeCells (Value.agg #[.slice none 0 0]).cells (3 * 1)).toList = [.slice none 0 0, .slice none 0 0, .slice none 0 0] := by
  show (madeCells #[Value.slice none 0 0] 3).toList = _
  rw [toList_madeCells_one]; rfl
/-- the two rows of three, just made -/
theorem Pl.start {B : Nat} {w1 w2 w3 : World} {u v : Value} (h2 : w2.ownsRow w1.heap.size 29 1 (.slice (some ⟨w1.heap.size, 0, none⟩) 3 3) 3 [u, u, u]) (h3 : w3.ownsRow w2.heap.size 35 1 (.slice (some ⟨w2.heap.size, 0, none⟩) 3 3) 3 [v, v, v]) (hg2 : w1.grownBy w2 none) (hg3 : w2.grownBy w3 none) (hB : B ≤ w1.heap.size) (E : Nat → One) : Pl B w3 w1.heap.size w2.heap.size 0 E := by
  have hlt := (h2.lt w1.heap.size rfl).2
  have h23 : w3.ownsRow w1.heap.size 29 1 (.slice (some ⟨w1.heap.size, 0, none⟩) 3 3) 3 [u, u, u] := owns_frame h2 (fun g hg => by cases hg; exact hg3.block _ hlt (fun e => by cases e))
  refine ⟨fun i hi => ?_, fun i hi => ?_, fun i => h23.frozenAt i, fun i => h3.frozenAt i, fun i hi => by omega, fun i hi => by omega, fun i hi => by omega, fun i j hi => by omega, by omega, hB, by omega⟩
  · rw [h23.cellAt i (by omega), List.getElem?_eq_getElem (by simp; omega)]; exact ⟨_, rfl⟩
  · rw [h3.cellAt i (by omega), List.getElem?_eq_getElem (by simp; omega)]; exact ⟨_, rfl⟩
/-- a new one laid at place k -/
theorem Pl.laid {B : Nat} {w w4 w5 : World} {Sb Wb k p g g2 n : Nat} {E : Nat → One} (h : Pl B w Sb Wb k E) (hk : k < 3) (hBw : B ≤ w.heap.size) (hn : n ≤ 4096) (h4 : Bs w4 p g n ((n + 63) / 64) (List.replicate ((n + 63) / 64) 0)) (hp : w.heap.size ≤ p) (hg : w.heap.size ≤ g) (hB4 : Below w.heap.size w w4)
    (hg2 : w4.heap.size ≤ g2) (h5 : w5.ownsRow g2 4 1 (.slice (some ⟨g2, 0, none⟩) n n) n (cellsB (List.replicate n false))) (hB5 : Below w4.heap.size w4 w5) :
    Pl B ((w5.setCell ⟨Sb, k, none⟩ (at_p p)).setCell ⟨Wb, k, none⟩ (.slice (some ⟨g2, 0, none⟩) n n)) Sb Wb (k + 1) (upd E k ⟨p, g, n, (n + 63) / 64, List.replicate ((n + 63) / 64) 0, some ⟨g2, 0, none⟩, n, List.replicate n false⟩) := by
  have hP5 := (h.below (Nat.le_refl _) hB4).below (Nat.le_refl _) hB5
  have hs := h.slt
  have hw := h.wlt
  have hz4 := hB4.size
  have hb4 := h4.plt
  have hg4 := h4.glt
  refine hP5.put (e := ⟨p, g, n, (n + 63) / 64, List.replicate ((n + 63) / 64) 0, some ⟨g2, 0, none⟩, n, List.replicate n false⟩) hk (fun j hj => by omega) (h4.below (Nat.le_refl _) hB5) (owns_mono h5) hn ?_ ?_
  · intro b hb
    have : some g2 = some b := hb
    injection this with this
    subst this
    exact ⟨by show g2 ≠ p; omega, by show g2 ≠ g; omega⟩
  · intro b hb
    have hbw : w.heap.size ≤ b := by
      rcases hb with hb | hb | hb
      · have : b = p := hb; omega
      · have : b = g := hb; omega
      · have : some g2 = some b := hb
        injection this with this
        omega
    refine ⟨by omega, by omega, by omega, fun j hj _ hh => ?_⟩
    have := (h.pt j hj).lt b hh
    omega
theorem OkK.laid {k n : Nat} {E : Nat → One} (h : OkK k E) (p g m : Nat) (a : Option Addr) (c : Nat) : OkK (k + 1) (upd E k ⟨p, g, n, m, List.replicate m 0, a, c, List.replicate n false⟩) := by
  intro i hi
  by_cases e : i = k
  · subst e
    rw [upd_same]
    refine bools_ext (by simp) (fun j hj => ?_)
    rw [bitAt_zero, List.getD_eq_getElem?_getD, List.getElem?_replicate]
    split <;> rfl
  · rw [upd_other _ _ _ _ e]
    exact h i (by omega)

/-- number kk copied into the place of number i -/
theorem Pl.copied {B : Nat} {w w4 w5 : World} {Sb Wb i kk p g : Nat} {ro : Option Addr} {rc : Nat} {E : Nat → One} (h : Pl B w Sb Wb 3 E) (hi : i < 3) (hkk : kk < 3) (hBw : B ≤ w.heap.size) (h4 : Bs w4 p g (E kk).n (E kk).m (E kk).C) (hp : w.heap.size ≤ p) (hg : w.heap.size ≤ g) (hB4 : Below w.heap.size w w4)
    (h5 : w5.ownsRow (w4.heap.size + 1) 4 1 (.slice ro (E kk).n rc) (E kk).n (cellsB (E kk).T)) (hB5 : Below w4.heap.size w4 w5) :
    Pl B ((w5.setCell ⟨Sb, i, none⟩ (at_p p)).setCell ⟨Wb, i, none⟩ (.slice ro (E kk).n rc)) Sb Wb 3 (upd E i ⟨p, g, (E kk).n, (E kk).m, (E kk).C, ro, rc, (E kk).T⟩) := by
  have hP5 := (h.below (Nat.le_refl _) hB4).below (Nat.le_refl _) hB5
  have hs := h.slt
  have hw := h.wlt
  have hz4 := hB4.size
  have hb4 := h4.plt
  have hg4 := h4.glt
  refine hP5.put (e := ⟨p, g, (E kk).n, (E kk).m, (E kk).C, ro, rc, (E kk).T⟩) hi (fun j hj => .inr hj) (h4.below (Nat.le_refl _) hB5) (owns_mono h5) (h.pt kk hkk).bs.small ?_ ?_
  · intro b hb
    have := (h5.lt b hb).1
    exact ⟨by show b ≠ p; omega, by show b ≠ g; omega⟩
  · intro b hb
    have hbw : w.heap.size ≤ b := by
      rcases hb with hb | hb | hb
      · have : b = p := hb; omega
      · have : b = g := hb; omega
      · have := (h5.lt b hb).1; omega
    refine ⟨by omega, by omega, by omega, fun j hj _ hh => ?_⟩
    have := (h.pt j hj).lt b hh
    omega

theorem Pl.four {B : Nat} {w : World} {Sb Wb a c na nc : Nat} {E : Nat → One} (h : Pl B w Sb Wb 3 E) (ha : a < 3) (hc : c < 3) (hna : (E a).n = na) (hnc : (E c).n = nc) :
    w.cell? ⟨Sb, a, none⟩ = some (at_p (E a).p) ∧ w.cell? ⟨Sb, c, none⟩ = some (at_p (E c).p) ∧ w.cell? ⟨Wb, a, none⟩ = some (.slice (E a).a na (E a).c) ∧ w.cell? ⟨Wb, c, none⟩ = some (.slice (E c).a nc (E c).c) := by
  subst hna
  subst hnc
  exact ⟨h.sets a ha, h.sets c hc, (h.pt a ha).rs.at_s, (h.pt c hc).rs.at_s⟩

set_option maxRecDepth 100000 in
set_option maxHeartbeats 40000000 in
theorem plays_walk (s0 s1 s2 : Int) (so : Option Addr) (len cap : Nat) (O : Nat → Nat → Int) (w : World) (hlc : len ≤ cap) (hcm : cap ≤ 9223372036854775807)
    (hsc : ∀ j, j < len → ∃ b off, so = some ⟨b, off, none⟩ ∧ ∀ f, f < 4 → w.cell? ⟨b, off + j * 4 + f, none⟩ = some (.int .i64 (O j f))) :
    Calls Try.prog 3 #[.agg #[.int .i64 s0, .int .i64 s1, .int .i64 s2, .slice so len cap]] w fun e w' => e = .returned (.bool true) ∧ Below w.heap.size w w' := by
  obtain ⟨ip, hp0, hp1, hp2, hp3⟩ := info_parts Try.infoP
  obtain ⟨is, hs0, hs1, hs2, hs3⟩ := info_parts Try.infoS
  obtain ⟨W1, hW1⟩ : ∃ W1, w.alloc (.cells #[.int .i64 s0, .int .i64 s1, .int .i64 s2, .slice so len cap] 25) = W1 := ⟨_, rfl⟩
  have HB0 : Hid (Below w.heap.size w W1 ∧ W1.heap.size = w.heap.size + 1) := by
    rw [← hW1]; exact ⟨(Below.refl _ _).alloc (Nat.le_refl _) _, by simp⟩
  have HX : Hid ((∀ i, i < 3 → W1.cell? ⟨w.heap.size, i, none⟩ = some (.int .i64 (nth3 s0 s1 s2 i))) ∧ W1.cell? ⟨w.heap.size, 3, none⟩ = some (.slice so len cap)) := by
    rw [← hW1]
    refine ⟨fun i hi => ?_, by simp⟩
    match i, hi with
    | 0, _ => simp [nth3]
    | 1, _ => simp [nth3]
    | 2, _ => simp [nth3]
  go_enter Try.func3, Try.ntmps3
  go_upto_block 0 with (first
    | (go_at_call 9; refine (fixed_at _).mono ?_; rintro e w1 ⟨rfl, hB1⟩; clear hW1)
    | (at_make; refine wpList_make_full _ rfl _ _ 27 rfl w1.heap.size 29 ip (.pointer none) 1 Try.underlying27 hp0 hp1 hp2 _ _ _ _ 3 rfl rfl rfl rfl (by rw [hp3]; omega) (by unfold maxLen; omega) (Nat.le_refl _) ?_; intro w2 hown2 hg2; rw [madeP] at hown2)
    | (at_make; refine wpList_make_full _ rfl _ _ 28 rfl w2.heap.size 35 is (.agg #[.slice none 0 0]) 1 Try.underlying28 hs0 hs1 hs2 _ _ _ _ 3 rfl rfl rfl rfl (by rw [hs3]; omega) (by unfold maxLen; omega) (Nat.le_refl _) ?_; intro w3 hown3 hg3; rw [madeS] at hown3))
  obtain ⟨B, hB⟩ : ∃ B, W1.heap.size = B := ⟨_, rfl⟩
  have HBB : Hid (W1.heap.size = B) := hB
  have hst := Pl.start (B := B) hown2 hown3 hg2 hg3 (by rw [← hB]; exact hB1.size) (fun _ => ⟨0, 0, 0, 0, [], none, 0, []⟩)
  have hW3 : Below B W1 w3 := by
    rw [← hB]
    have h2 := hB1.grown hg2 hB1.size (fun k e => by cases e)
    exact h2.grown hg3 h2.size (fun k e => by cases e)
  obtain ⟨Sb, hSb⟩ : ∃ Sb, w1.heap.size = Sb := ⟨_, rfl⟩
  obtain ⟨Wb, hWb⟩ : ∃ Wb, w2.heap.size = Wb := ⟨_, rfl⟩
  obtain ⟨bx, hbx⟩ : ∃ bx, w.heap.size = bx := ⟨_, rfl⟩
  rw [hSb, hWb] at hst ⊢
  have HBX : Hid (w.heap.size = bx) := hbx
  rw [hbx] at HX HB0
  have hbB : bx < B := by have := HB0.out.2; omega
  rw [hbx]
  clear hown2 hown3 hg2 hg3 hB1 hB hSb hWb hbx hp0 hp1 hp2 hp3 hs0 hs1 hs2 hs3
  go_cut [] (fun wx => ∃ E, Hid (Pl B wx Sb Wb 3 E) ∧ Hid (Ok E) ∧ Hid (Below B W1 wx))
  case first =>
     go_wp2_with fail
     go_loopw [25] (fun i wr => ∃ k : Nat, k ≤ 3 ∧ i = .int .i64 k ∧ (∃ E, Hid (Pl B wr Sb Wb k E) ∧ Hid (OkK k E)) ∧ Hid (Below B W1 wr)) (fun i _ => 3 - (intOf i).toNat)
     case atStart => exact ⟨0, by omega, rfl, ⟨_, hst, fun i hi => by omega⟩, hW3⟩
     case round =>
       obtain ⟨k, hk, rfl, ⟨E, hP, hok⟩, hBr⟩ := hrel
       have hszr : B ≤ wr.heap.size := by have := hBr.out.size; have := HBB.out; omega
       by_cases hlt : k < 3
       · have hcs : wr.cell? ⟨bx, k, none⟩ = some (.int .i64 (nth3 s0 s1 s2 k)) := (hBr.out.cell (p := ⟨bx, k, none⟩) hbB).trans (HX.out.1 k hlt)
         obtain ⟨S, hS⟩ : ∃ S, nth3 s0 s1 s2 k = S := ⟨_, rfl⟩
         rw [hS] at hcs
         clear hS
         by_cases hin : 0 ≤ S ∧ S ≤ 4096
         · obtain ⟨n, rfl⟩ : ∃ n : Nat, S = n := ⟨S.toNat, by omega⟩
           have hn : n ≤ 4096 := by omega
           have N1 : Hid (∀ w : World, Calls Try.prog 10 #[.int .i64 n] w fun e w' => ∃ p g, e = .returned (.tuple #[at_p p, .int .i64 0]) ∧ Bs w' p g n ((n + 63) / 64) (List.replicate ((n + 63) / 64) 0) ∧ w.heap.size ≤ p ∧ w.heap.size ≤ g ∧ Below w.heap.size w w') := fun w => bnew_in n w hn
           have N2 : Hid (∀ w : World, Calls Try.prog 11 #[.int .i64 n] w fun e w' => ∃ g, e = .returned (.tuple #[.agg #[.slice (some ⟨g, 0, none⟩) n n], .bool true]) ∧ w.heap.size ≤ g ∧ w'.ownsRow g 4 1 (.slice (some ⟨g, 0, none⟩) n n) n (cellsB (List.replicate n false)) ∧ Below w.heap.size w w') := fun w => new_in n w hn
           clear hin
           go_wp2_with (first
             | (go_at_call 10; refine (N1.out _).mono ?_; rintro e w4 ⟨p, g, rfl, h4, hp, hg, hB4⟩; have hcs4 := below_cell hB4 hcs)
             | (go_at_call 11; refine (N2.out _).mono ?_; rintro e w5 ⟨g2, rfl, hg2, h5, hB5⟩))
           have hP5 := (hP.out.below (Nat.le_refl _) hB4).below (Nat.le_refl _) hB5
           obtain ⟨vs, hvs⟩ := hP5.sc k hlt
           obtain ⟨vw, hvw⟩ := hP5.wc k hlt
           have hsf := hP5.sfz k
           have hwf := hP5.wfz k
           have hsl := hP5.slt
           have hwl := hP5.wlt
           have hsw := hP5.sw
           have hwk : IntKind.i64.wrap (k : Int) = (k : Int) := by rw [IntKind.wrap_i64]; omega
           have HL : Hid (Pl B ((w5.setCell ⟨Sb, k, none⟩ (at_p p)).setCell ⟨Wb, k, none⟩ (.slice (some ⟨g2, 0, none⟩) n n)) Sb Wb (k + 1) (upd E k ⟨p, g, n, (n + 63) / 64, List.replicate ((n + 63) / 64) 0, some ⟨g2, 0, none⟩, n, List.replicate n false⟩)) := hP.out.laid hlt hszr hn h4 hp hg hB4 hg2 h5 hB5
           have HBL : Hid (Below B W1 ((w5.setCell ⟨Sb, k, none⟩ (at_p p)).setCell ⟨Wb, k, none⟩ (.slice (some ⟨g2, 0, none⟩) n n))) := by
             have h4' := hBr.out.trans (hB4.mono hszr)
             have h5' := h4'.trans (hB5.mono (Nat.le_trans hszr hB4.size))
             exact (h5'.setCell (p := ⟨Sb, k, none⟩) hP.out.bS _).setCell (p := ⟨Wb, k, none⟩) hP.out.bW _
           have hB5s : B ≤ w5.heap.size := Nat.le_trans hszr (Nat.le_trans hB4.size hB5.size)
           have HOK : Hid (OkK (k + 1) (upd E k ⟨p, g, n, (n + 63) / 64, List.replicate ((n + 63) / 64) 0, some ⟨g2, 0, none⟩, n, List.replicate n false⟩)) := hok.out.laid p g _ _ n
           clear hP5 h4 h5 hB4 hB5 hP hok hBr hcs hcs4
           go_region
           go_wp2
           go_roundw
           case rel =>
             refine ⟨k + 1, by omega, by go_num, ⟨_, (HL.out.below (Nat.le_refl _) ((Below.refl _ _).alloc (Nat.le_refl _) _)).below (Nat.le_refl _) (Below.refl _ _).drew, HOK.out⟩, ?_⟩
             exact (HBL.out.alloc (by simp; exact hB5s) _).drew
           case measure => simp [intOf]; omega
         · have N1 : Hid (∀ w : World, Calls Try.prog 10 #[.int .i64 S] w fun e w' => e = .returned (.tuple #[.pointer none, .int .i64 2]) ∧ w = w') := fun w => bnew_out S w hin
           have N2 : Hid (∀ w : World, Calls Try.prog 11 #[.int .i64 S] w fun e w' => e = .returned (.tuple #[.agg #[.slice none 0 0], .bool false]) ∧ Below w.heap.size w w') := fun w => new_out S w hin
           clear hin
           go_wp2_with (first
             | (go_at_call 10; refine (N1.out _).mono ?_; rintro e w' ⟨rfl, rfl⟩)
             | (go_at_call 11; refine (N2.out _).mono ?_; rintro e w5 ⟨rfl, hB5⟩))
           go_ret
           have h1 := HB0.out.1
           have h5 := hBr.out.trans (hB5.mono hszr)
           have h6 := (h5.alloc (Nat.le_trans hszr hB5.size) (.cells #[.slice none 0 0] 35)).mono (Nat.le_of_lt hbB)
           exact ⟨rfl, by rw [HBX.out]; exact h1.trans h6⟩
       · have hP3 : Pl B wr Sb Wb 3 E ∧ Ok E := by
           have e : k = 3 := by omega
           subst e
           exact ⟨hP.out, hok.out⟩
         go_wp2_with fail
         go_meet
         exact ⟨E, hP3.1, hP3.2, hBr.out⟩
  case rest =>
   obtain ⟨E, hP3a, hP3b, hBr⟩ := hcut
   have hP3 : Hid (Pl B wc Sb Wb 3 E ∧ Ok E) := ⟨hP3a.out, hP3b.out⟩
   have hcx : wc.cell? ⟨bx, 3, none⟩ = some (.slice so len cap) := (hBr.out.cell (p := ⟨bx, 3, none⟩) hbB).trans HX.out.2
   clear hst hW3 HX hP3a hP3b
   go_upto_block 2 with fail
   go_cut [] (fun wx => ∃ E, Hid (Pl B wx Sb Wb 3 E) ∧ Hid (Ok E) ∧ Hid (Below B W1 wx))
   case first =>
    go_wp2
    go_loopw [70] (fun i wr => ∃ k : Nat, k ≤ len ∧ i = .int .i64 k ∧ (∃ E, Hid (Pl B wr Sb Wb 3 E) ∧ Hid (Ok E)) ∧ Hid (Below B W1 wr)) (fun i _ => len - (intOf i).toNat)
    case atStart => exact ⟨0, by omega, rfl, ⟨_, hP3.out.1, hP3.out.2⟩, hBr.out⟩
    case round =>
      clear hP3 hBr
      obtain ⟨k, hk, rfl, ⟨E, hP, hok⟩, hBr⟩ := hrel
      have hszr : B ≤ wr.heap.size := by have := hBr.out.size; have := HBB.out; omega
      by_cases hlt : k < len
      · obtain ⟨b, off, rfl, hcl⟩ := hsc k hlt
        have hcell : ∀ f, f < 4 → wr.cell? ⟨b, off + k * 4 + f, none⟩ = some (.int .i64 (O k f)) := fun f hf => by
          have h1 := below_cell (HB0.out.1.mono (Nat.le_of_eq HBX.out)) (hcl f hf)
          exact (hBr.out.cell (p := ⟨b, off + k * 4 + f, none⟩) (Nat.lt_of_lt_of_le (World.block_lt_of_cell? _ _ h1) (Nat.le_of_eq HBB.out))).trans h1
        have c0 := hcell 0 (by omega)
        have c1 := hcell 1 (by omega)
        have c2 := hcell 2 (by omega)
        have c3 := hcell 3 (by omega)
        rw [Nat.add_zero] at c0
        generalize O k 0 = o0 at c0
        generalize O k 1 = o1 at c1
        generalize O k 2 = o2 at c2
        generalize O k 3 = o3 at c3
        clear hcell hcl
        by_cases h300 : k < 300
        · obtain ⟨i, hi, HI⟩ := which_fix o1
          obtain ⟨kk, hkk, HK⟩ := which_fix o2
          go_wp2
          have hM0 := Mid.start hP.out hBr.out hszr o0 o1 o2 o3
          obtain ⟨bo, hbo⟩ : ∃ bo, wr.heap.size = bo := ⟨_, rfl⟩
          rw [hbo] at hM0 ⊢
          obtain ⟨WA, hWA⟩ : ∃ WA, wr.alloc (.cells #[.int .i64 o0, .int .i64 o1, .int .i64 o2, .int .i64 o3] 39) = WA := ⟨_, rfl⟩
          rw [hWA] at hM0 ⊢
          clear hbo hWA c0 c1 c2 c3 hP hBr hszr hcx
          have m1 := hM0.c1
          have m2 := hM0.c2
          go_quiet ((first | (go_at_call 12; exact quiet_same (HI.out _)) | (go_at_call 12; exact quiet_same (HK.out _))))
          have hM1 := hM0.below (below_drewN WA.heap.size WA nq)
          obtain ⟨WB, hWB⟩ : ∃ WB, WA.drewN nq = WB := ⟨_, rfl⟩
          rw [hWB] at hM1 ⊢
          clear hWB hM0 m1 m2 HI HK
          have t1 := hM1.pl.sets i hi
          have hwi : IntKind.i64.wrap (i : Int) = (i : Int) := by rw [IntKind.wrap_i64]; omega
          have hwk : IntKind.i64.wrap (kk : Int) = (kk : Int) := by rw [IntKind.wrap_i64]; omega
          have hi0 : (0 : Int) ≤ (i : Int) := by omega
          have hi3 : (i : Int) < 3 := by omega
          have hk0 : (0 : Int) ≤ (kk : Int) := by omega
          have hk3 : (kk : Int) < 3 := by omega
          go_wp2
          go_quiet (fail)
          have hM2 := hM1.below (below_drewN WB.heap.size WB nq)
          obtain ⟨WC, hWC⟩ : ∃ WC, WB.drewN nq = WC := ⟨_, rfl⟩
          rw [hWC] at hM2 ⊢
          clear hWC hM1 t1
          have m0 := hM2.c0
          by_cases q1 : o0 = 1
          · as_aux_lemma =>
              have hPd := hM2.pl.below (Nat.le_refl _) (Below.refl _ _).drew
              have hBd : B ≤ WC.drew.heap.size := hM2.hB
              have hbd := hM2.bel.drew
              subst q1
              obtain ⟨r, E1, E2, hOK2, R1, R2⟩ := turn_both B Sb Wb i E WC hM2.pl hok.out hi o3 true
              have R1' : Hid (∀ w, Pl B w Sb Wb 3 E → Calls Try.prog 13 #[at_p (E i).p, .int .i64 o3] w fun e w' => e = .returned (.int .i64 r) ∧ Pl B w' Sb Wb 3 E1 ∧ Kept E w w') := R1
              have m3 := hM2.c3
              have hfr := hM2.free
              clear R1
              go_wp2
              go_region_held3 (fun w' => w'.cell? ⟨bo, 3, none⟩ = some (.int .i64 o3)) (first | exact m3 | exact m5 | exact m6)
                (first
                  | (go_at_call 13; refine (R1'.out _ hPd).mono ?_; rintro e w5 ⟨rfl, hP5, hK5⟩; have m5 := hK5.cell (show WC.drew.cell? ⟨bo, 3, none⟩ = some (.int .i64 o3) from m3) hfr)
                  | (go_at_call 14; refine (R2.out _ hP5).mono ?_; rintro e w6 ⟨rfl, hP6, hK6⟩; have m6 := hK6.cell m5 hfr))
              have hb6 := hbd.trans ((hK5.trans hK6).below hPd hBd)
              clear hM2 m0 m3 m5 m6 hP5 hK5 hK6 hPd hbd hfr R1' R2
              go_wp2
              have AL := alike_both B Sb Wb i E2 hOK2 hi
              have t1 := hP6.sets i hi
              have hPd' := hP6.below (Nat.le_refl _) (Below.refl _ _).drew
              have hbd' := hb6.drew
              have hZs : B ≤ w6.heap.size := by have := hb6.size; have := HBB.out; omega
              go_region_held3 (fun w' => w'.cell? ⟨Sb, i, none⟩ = some (at_p (E2 i).p)) (first | exact t1 | exact t9)
                (first
                  | (go_at_call 26; refine (AL.out _ hPd').mono ?_; rintro e w9 ⟨rfl, hB9⟩; have t9 := below_cell hB9 (show w6.drew.cell? ⟨Sb, i, none⟩ = some (at_p (E2 i).p) from t1); have hP9 := hPd'.below (Nat.le_refl _) hB9; have hb9 := hbd'.trans (hB9.mono hZs)))
              go_wp2
              go_roundw
              case rel => exact ⟨k + 1, by omega, by go_num, ⟨E2, hP9, hOK2⟩, hb9⟩
              case measure => simp [intOf]; omega
          by_cases q2 : o0 = 2
          · as_aux_lemma =>
              have hPd := hM2.pl.below (Nat.le_refl _) (Below.refl _ _).drew
              have hBd : B ≤ WC.drew.heap.size := hM2.hB
              have hbd := hM2.bel.drew
              subst q2
              obtain ⟨r, E1, E2, hOK2, R1, R2⟩ := turn_both B Sb Wb i E WC hM2.pl hok.out hi o3 false
              have R1' : Hid (∀ w, Pl B w Sb Wb 3 E → Calls Try.prog 15 #[at_p (E i).p, .int .i64 o3] w fun e w' => e = .returned (.int .i64 r) ∧ Pl B w' Sb Wb 3 E1 ∧ Kept E w w') := R1
              have m3 := hM2.c3
              have hfr := hM2.free
              clear R1
              go_wp2
              go_region_held3 (fun w' => w'.cell? ⟨bo, 3, none⟩ = some (.int .i64 o3)) (first | exact m3 | exact m5 | exact m6)
                (first
                  | (go_at_call 15; refine (R1'.out _ hPd).mono ?_; rintro e w5 ⟨rfl, hP5, hK5⟩; have m5 := hK5.cell (show WC.drew.cell? ⟨bo, 3, none⟩ = some (.int .i64 o3) from m3) hfr)
                  | (go_at_call 14; refine (R2.out _ hP5).mono ?_; rintro e w6 ⟨rfl, hP6, hK6⟩; have m6 := hK6.cell m5 hfr))
              have hb6 := hbd.trans ((hK5.trans hK6).below hPd hBd)
              clear hM2 m0 m3 m5 m6 hP5 hK5 hK6 hPd hbd hfr R1' R2
              go_wp2
              have AL := alike_both B Sb Wb i E2 hOK2 hi
              have t1 := hP6.sets i hi
              have hPd' := hP6.below (Nat.le_refl _) (Below.refl _ _).drew
              have hbd' := hb6.drew
              have hZs : B ≤ w6.heap.size := by have := hb6.size; have := HBB.out; omega
              go_region_held3 (fun w' => w'.cell? ⟨Sb, i, none⟩ = some (at_p (E2 i).p)) (first | exact t1 | exact t9)
                (first
                  | (go_at_call 26; refine (AL.out _ hPd').mono ?_; rintro e w9 ⟨rfl, hB9⟩; have t9 := below_cell hB9 (show w6.drew.cell? ⟨Sb, i, none⟩ = some (at_p (E2 i).p) from t1); have hP9 := hPd'.below (Nat.le_refl _) hB9; have hb9 := hbd'.trans (hB9.mono hZs)))
              go_wp2
              go_roundw
              case rel => exact ⟨k + 1, by omega, by go_num, ⟨E2, hP9, hOK2⟩, hb9⟩
              case measure => simp [intOf]; omega
          by_cases q3 : o0 = 3
          · as_aux_lemma =>
              have hPd := hM2.pl.below (Nat.le_refl _) (Below.refl _ _).drew
              have hBd : B ≤ WC.drew.heap.size := hM2.hB
              have hbd := hM2.bel.drew
              subst q3
              obtain ⟨r, R1⟩ := with_both B Sb Wb i kk 16 0 (fun a b => a || b) E WC hM2.pl hok.out hi hkk (fun a b => rfl) join_bits join_shape
              have m3 := hM2.pl.sets kk hkk
              have hfr : ∀ j, j < 3 → ¬ (E j).Has Sb := fun j hj hh => (hM2.pl.own j hj Sb hh).2.1 rfl
              go_wp2
              go_region_held3 (fun w' => w'.cell? ⟨Sb, kk, none⟩ = some (at_p (E kk).p)) (first | exact m3 | exact m5 | exact m6)
                (first
                  | (go_at_call 16; refine (R1.out _ hPd).mono ?_; rintro e w5 ⟨E1, rfl, hP5, hK5, R2⟩; have m5 := hK5.cell (show WC.drew.cell? ⟨Sb, kk, none⟩ = some (at_p (E kk).p) from m3) hfr)
                  | (go_at_call 17; refine (R2.out _ hP5).mono ?_; rintro e w6 ⟨E2, rfl, hP6, hOK2, hK6⟩; have m6 := hK6.cell m5 hfr))
              have hb6 := hbd.trans ((hK5.trans hK6).below hPd hBd)
              clear hM2 m0 m3 m5 m6 hP5 hK5 hK6 hPd hbd hfr R1 R2
              go_wp2
              have AL := alike_both B Sb Wb i E2 hOK2 hi
              have t1 := hP6.sets i hi
              have hPd' := hP6.below (Nat.le_refl _) (Below.refl _ _).drew
              have hbd' := hb6.drew
              have hZs : B ≤ w6.heap.size := by have := hb6.size; have := HBB.out; omega
              go_region_held3 (fun w' => w'.cell? ⟨Sb, i, none⟩ = some (at_p (E2 i).p)) (first | exact t1 | exact t9)
                (first
                  | (go_at_call 26; refine (AL.out _ hPd').mono ?_; rintro e w9 ⟨rfl, hB9⟩; have t9 := below_cell hB9 (show w6.drew.cell? ⟨Sb, i, none⟩ = some (at_p (E2 i).p) from t1); have hP9 := hPd'.below (Nat.le_refl _) hB9; have hb9 := hbd'.trans (hB9.mono hZs)))
              go_wp2
              go_roundw
              case rel => exact ⟨k + 1, by omega, by go_num, ⟨E2, hP9, hOK2⟩, hb9⟩
              case measure => simp [intOf]; omega
          by_cases q4 : o0 = 4
          · as_aux_lemma =>
              have hPd := hM2.pl.below (Nat.le_refl _) (Below.refl _ _).drew
              have hBd : B ≤ WC.drew.heap.size := hM2.hB
              have hbd := hM2.bel.drew
              subst q4
              obtain ⟨r, R1⟩ := with_both B Sb Wb i kk 18 1 (fun a b => a && b) E WC hM2.pl hok.out hi hkk (fun a b => rfl) meet_bits meet_shape
              have m3 := hM2.pl.sets kk hkk
              have hfr : ∀ j, j < 3 → ¬ (E j).Has Sb := fun j hj hh => (hM2.pl.own j hj Sb hh).2.1 rfl
              go_wp2
              go_region_held3 (fun w' => w'.cell? ⟨Sb, kk, none⟩ = some (at_p (E kk).p)) (first | exact m3 | exact m5 | exact m6)
                (first
                  | (go_at_call 18; refine (R1.out _ hPd).mono ?_; rintro e w5 ⟨E1, rfl, hP5, hK5, R2⟩; have m5 := hK5.cell (show WC.drew.cell? ⟨Sb, kk, none⟩ = some (at_p (E kk).p) from m3) hfr)
                  | (go_at_call 17; refine (R2.out _ hP5).mono ?_; rintro e w6 ⟨E2, rfl, hP6, hOK2, hK6⟩; have m6 := hK6.cell m5 hfr))
              have hb6 := hbd.trans ((hK5.trans hK6).below hPd hBd)
              clear hM2 m0 m3 m5 m6 hP5 hK5 hK6 hPd hbd hfr R1 R2
              go_wp2
              have AL := alike_both B Sb Wb i E2 hOK2 hi
              have t1 := hP6.sets i hi
              have hPd' := hP6.below (Nat.le_refl _) (Below.refl _ _).drew
              have hbd' := hb6.drew
              have hZs : B ≤ w6.heap.size := by have := hb6.size; have := HBB.out; omega
              go_region_held3 (fun w' => w'.cell? ⟨Sb, i, none⟩ = some (at_p (E2 i).p)) (first | exact t1 | exact t9)
                (first
                  | (go_at_call 26; refine (AL.out _ hPd').mono ?_; rintro e w9 ⟨rfl, hB9⟩; have t9 := below_cell hB9 (show w6.drew.cell? ⟨Sb, i, none⟩ = some (at_p (E2 i).p) from t1); have hP9 := hPd'.below (Nat.le_refl _) hB9; have hb9 := hbd'.trans (hB9.mono hZs)))
              go_wp2
              go_roundw
              case rel => exact ⟨k + 1, by omega, by go_num, ⟨E2, hP9, hOK2⟩, hb9⟩
              case measure => simp [intOf]; omega
          by_cases q5 : o0 = 5
          · as_aux_lemma =>
              have hPd := hM2.pl.below (Nat.le_refl _) (Below.refl _ _).drew
              have hBd : B ≤ WC.drew.heap.size := hM2.hB
              have hbd := hM2.bel.drew
              subst q5
              obtain ⟨r, R1⟩ := with_both B Sb Wb i kk 19 2 (fun a b => a && !b) E WC hM2.pl hok.out hi hkk (fun a b => rfl) less_bits less_shape
              have m3 := hM2.pl.sets kk hkk
              have hfr : ∀ j, j < 3 → ¬ (E j).Has Sb := fun j hj hh => (hM2.pl.own j hj Sb hh).2.1 rfl
              go_wp2
              go_region_held3 (fun w' => w'.cell? ⟨Sb, kk, none⟩ = some (at_p (E kk).p)) (first | exact m3 | exact m5 | exact m6)
                (first
                  | (go_at_call 19; refine (R1.out _ hPd).mono ?_; rintro e w5 ⟨E1, rfl, hP5, hK5, R2⟩; have m5 := hK5.cell (show WC.drew.cell? ⟨Sb, kk, none⟩ = some (at_p (E kk).p) from m3) hfr)
                  | (go_at_call 17; refine (R2.out _ hP5).mono ?_; rintro e w6 ⟨E2, rfl, hP6, hOK2, hK6⟩; have m6 := hK6.cell m5 hfr))
              have hb6 := hbd.trans ((hK5.trans hK6).below hPd hBd)
              clear hM2 m0 m3 m5 m6 hP5 hK5 hK6 hPd hbd hfr R1 R2
              go_wp2
              have AL := alike_both B Sb Wb i E2 hOK2 hi
              have t1 := hP6.sets i hi
              have hPd' := hP6.below (Nat.le_refl _) (Below.refl _ _).drew
              have hbd' := hb6.drew
              have hZs : B ≤ w6.heap.size := by have := hb6.size; have := HBB.out; omega
              go_region_held3 (fun w' => w'.cell? ⟨Sb, i, none⟩ = some (at_p (E2 i).p)) (first | exact t1 | exact t9)
                (first
                  | (go_at_call 26; refine (AL.out _ hPd').mono ?_; rintro e w9 ⟨rfl, hB9⟩; have t9 := below_cell hB9 (show w6.drew.cell? ⟨Sb, i, none⟩ = some (at_p (E2 i).p) from t1); have hP9 := hPd'.below (Nat.le_refl _) hB9; have hb9 := hbd'.trans (hB9.mono hZs)))
              go_wp2
              go_roundw
              case rel => exact ⟨k + 1, by omega, by go_num, ⟨E2, hP9, hOK2⟩, hb9⟩
              case measure => simp [intOf]; omega
          by_cases q6 : o0 = 6
          ·
              have hPd := hM2.pl.below (Nat.le_refl _) (Below.refl _ _).drew
              have hBd : B ≤ WC.drew.heap.size := hM2.hB
              have hbd := hM2.bel.drew
              subst q6
              have m3 := hM2.pl.sets kk hkk
              have mi := hM2.pl.sets i hi
              obtain ⟨vw, hvw⟩ := hM2.pl.wc i hi
              have hsf := hM2.pl.sfz i
              have hwf := hM2.pl.wfz i
              have hsw := hM2.pl.sw
              have CP : Hid (∀ w, Pl B w Sb Wb 3 E → Calls Try.prog 20 #[at_p (E kk).p] w fun e w' => ∃ p' g', e = .returned (at_p p') ∧ Bs w' p' g' (E kk).n (E kk).m (E kk).C ∧ w.heap.size ≤ p' ∧ w.heap.size ≤ g' ∧ Below w.heap.size w w') := fun w hP => bcopy_at _ _ _ _ _ w (hP.pt kk hkk).bs
              have CQ : Hid (∀ w, Pl B w Sb Wb 3 E → Calls Try.prog 21 #[.pointer (some ⟨Wb, kk, none⟩)] w fun e w' => ∃ v, e = .returned (.agg #[v]) ∧ w'.ownsRow (w.heap.size + 1) 4 1 v (E kk).n (cellsB (E kk).T) ∧ Below w.heap.size w w') := fun w hP => copy_at Wb kk _ _ _ _ w (hP.pt kk hkk).rs
              go_wp2
              go_region_with (first
                | (go_at_call 20; refine (CP.out _ hPd).mono ?_; rintro e w5 ⟨p', g', rfl, h5, lp5, lg5, hB5⟩; have hP5 := hPd.below (Nat.le_refl _) hB5)
                | (go_at_call 21; refine (CQ.out _ hP5).mono ?_; rintro e w6 ⟨v, rfl, ho6, hB6⟩; obtain ⟨ro, rc, rfl⟩ := owns_slice ho6; have hP6 := hP5.below (Nat.le_refl _) hB6; have s6 := hP6.sets i hi; have sf6 := hP6.sfz i; have wf6 := hP6.wfz i; obtain ⟨v6, hv6⟩ := hP6.wc i hi))
              all_goals
                have hPZ := hPd.copied hi hkk hBd h5 lp5 lg5 hB5 ho6 hB6
                have hbZ : Below B W1 ((w6.setCell ⟨Sb, i, none⟩ (at_p p')).setCell ⟨Wb, i, none⟩ (.slice ro (E kk).n rc)) := ((hbd.trans (hB5.mono hBd)).trans (hB6.mono (Nat.le_trans hBd hB5.size))).setCell (p := ⟨Sb, i, none⟩) hPd.bS _ |>.setCell (p := ⟨Wb, i, none⟩) hPd.bW _
                have hOK2 : Ok (upd E i ⟨p', g', (E kk).n, (E kk).m, (E kk).C, ro, rc, (E kk).T⟩) := hok.out.upd i _ (hok.out kk hkk)
                obtain ⟨WZ, hWZ⟩ : ∃ WZ, (w6.setCell ⟨Sb, i, none⟩ (at_p p')).setCell ⟨Wb, i, none⟩ (.slice ro (E kk).n rc) = WZ := ⟨_, rfl⟩
                obtain ⟨E2, hE2⟩ : ∃ E2, upd E i ⟨p', g', (E kk).n, (E kk).m, (E kk).C, ro, rc, (E kk).T⟩ = E2 := ⟨_, rfl⟩
                rw [hE2] at hPZ hOK2
                rw [hWZ] at hPZ hbZ
                try rw [hWZ]
                clear hE2 hM2 m0 m3 mi hP5 hP6 hPd hbd h5 ho6 hB5 hB6 CP CQ s6 sf6 wf6 hv6 hvw hsf hwf
                go_wp2
                have AL := alike_both B Sb Wb i E2 hOK2 hi
                have t1 := hPZ.sets i hi
                have hPd' := hPZ.below (Nat.le_refl _) (Below.refl _ _).drew
                have hbd' := hbZ.drew
                have hZs : B ≤ WZ.heap.size := by have := hbZ.size; have := HBB.out; omega
                go_region_held3 (fun w' => w'.cell? ⟨Sb, i, none⟩ = some (at_p (E2 i).p)) (first | exact t1 | exact t9)
                  (first
                    | (go_at_call 26; refine (AL.out _ hPd').mono ?_; rintro e w9 ⟨rfl, hB9⟩; have t9 := below_cell hB9 (show WZ.drew.cell? ⟨Sb, i, none⟩ = some (at_p (E2 i).p) from t1); have hP9 := hPd'.below (Nat.le_refl _) hB9; have hb9 := hbd'.trans (hB9.mono hZs)))
                go_wp2
                go_roundw
                case rel => exact ⟨k + 1, by omega, by go_num, ⟨E2, hP9, hOK2⟩, hb9⟩
                case measure => simp [intOf]; omega
          by_cases q7 : o0 = 7
          · as_aux_lemma =>
              have hPd := hM2.pl.below (Nat.le_refl _) (Below.refl _ _).drew
              have hBd : B ≤ WC.drew.heap.size := hM2.hB
              have hbd := hM2.bel.drew
              subst q7
              obtain ⟨r, R1, R2⟩ := has_both B Sb Wb i E hok.out hi o3
              have m3 := hM2.c3
              go_wp2
              go_region_held3 (fun w' => w'.cell? ⟨bo, 3, none⟩ = some (.int .i64 o3)) (first | exact m3 | exact m5 | exact m6)
                (first
                  | (go_at_call 22; refine (R1.out _ hPd).mono ?_; rintro e w5 ⟨rfl, hB5⟩; have hP5 := hPd.below (Nat.le_refl _) hB5; have m5 := below_cell hB5 (show WC.drew.cell? ⟨bo, 3, none⟩ = some (.int .i64 o3) from m3))
                  | (go_at_call 23; refine (R2.out _ hP5).mono ?_; rintro e w6 ⟨rfl, hB6⟩; have hP6 := hP5.below (Nat.le_refl _) hB6; have m6 := below_cell hB6 m5))
              have hb6 := (hbd.trans (hB5.mono hBd)).trans (hB6.mono (Nat.le_trans hBd hB5.size))
              clear hM2 m0 m3 m5 m6 hP5 hB5 hB6 hPd hbd R1 R2
              go_wp2
              have AL := alike_both B Sb Wb i E hok.out hi
              have t1 := hP6.sets i hi
              have hPd' := hP6.below (Nat.le_refl _) (Below.refl _ _).drew
              have hbd' := hb6.drew
              have hZs : B ≤ w6.heap.size := by have := hb6.size; have := HBB.out; omega
              go_region_held3 (fun w' => w'.cell? ⟨Sb, i, none⟩ = some (at_p (E i).p)) (first | exact t1 | exact t9)
                (first
                  | (go_at_call 26; refine (AL.out _ hPd').mono ?_; rintro e w9 ⟨rfl, hB9⟩; have t9 := below_cell hB9 (show w6.drew.cell? ⟨Sb, i, none⟩ = some (at_p (E i).p) from t1); have hP9 := hPd'.below (Nat.le_refl _) hB9; have hb9 := hbd'.trans (hB9.mono hZs)))
              go_wp2
              go_roundw
              case rel => exact ⟨k + 1, by omega, by go_num, ⟨E, hP9, hok.out⟩, hb9⟩
              case measure => simp [intOf]; omega
          by_cases q8 : o0 = 8
          · as_aux_lemma =>
              have hPd := hM2.pl.below (Nat.le_refl _) (Below.refl _ _).drew
              have hBd : B ≤ WC.drew.heap.size := hM2.hB
              have hbd := hM2.bel.drew
              subst q8
              obtain ⟨r, R1, R2, _⟩ := same_both B Sb Wb i kk E WC hM2.pl hok.out hi hkk
              have m3 := hM2.pl.sets kk hkk
              go_wp2
              go_region_held3 (fun w' => w'.cell? ⟨Sb, kk, none⟩ = some (at_p (E kk).p)) (first | exact m3 | exact m5 | exact m6)
                (first
                  | (go_at_call 24; refine (R1.out _ hPd).mono ?_; rintro e w5 ⟨rfl, hB5⟩; have hP5 := hPd.below (Nat.le_refl _) hB5; have m5 := below_cell hB5 (show WC.drew.cell? ⟨Sb, kk, none⟩ = some (at_p (E kk).p) from m3))
                  | (go_at_call 25; refine (R2.out _ hP5).mono ?_; rintro e w6 ⟨rfl, hB6⟩; have hP6 := hP5.below (Nat.le_refl _) hB6; have m6 := below_cell hB6 m5))
              have hb6 := (hbd.trans (hB5.mono hBd)).trans (hB6.mono (Nat.le_trans hBd hB5.size))
              clear hM2 m0 m3 m5 m6 hP5 hB5 hB6 hPd hbd R1 R2
              go_wp2
              have AL := alike_both B Sb Wb i E hok.out hi
              have t1 := hP6.sets i hi
              have hPd' := hP6.below (Nat.le_refl _) (Below.refl _ _).drew
              have hbd' := hb6.drew
              have hZs : B ≤ w6.heap.size := by have := hb6.size; have := HBB.out; omega
              go_region_held3 (fun w' => w'.cell? ⟨Sb, i, none⟩ = some (at_p (E i).p)) (first | exact t1 | exact t9)
                (first
                  | (go_at_call 26; refine (AL.out _ hPd').mono ?_; rintro e w9 ⟨rfl, hB9⟩; have t9 := below_cell hB9 (show w6.drew.cell? ⟨Sb, i, none⟩ = some (at_p (E i).p) from t1); have hP9 := hPd'.below (Nat.le_refl _) hB9; have hb9 := hbd'.trans (hB9.mono hZs)))
              go_wp2
              go_roundw
              case rel => exact ⟨k + 1, by omega, by go_num, ⟨E, hP9, hok.out⟩, hb9⟩
              case measure => simp [intOf]; omega
          · as_aux_lemma =>
              go_wp2
              have hPZ := hM2.pl
              have hbZ := hM2.bel
              clear hM2 m0
              have AL := alike_both B Sb Wb i E hok.out hi
              have t1 := hPZ.sets i hi
              have hPd' := hPZ.below (Nat.le_refl _) (Below.refl _ _).drew
              have hbd' := hbZ.drew
              have hZs : B ≤ WC.heap.size := by have := hbZ.size; have := HBB.out; omega
              go_region_held3 (fun w' => w'.cell? ⟨Sb, i, none⟩ = some (at_p (E i).p)) (first | exact t1 | exact t9)
                (first
                  | (go_at_call 26; refine (AL.out _ hPd').mono ?_; rintro e w9 ⟨rfl, hB9⟩; have t9 := below_cell hB9 (show WC.drew.cell? ⟨Sb, i, none⟩ = some (at_p (E i).p) from t1); have hP9 := hPd'.below (Nat.le_refl _) hB9; have hb9 := hbd'.trans (hB9.mono hZs)))
              go_wp2
              go_roundw
              case rel => exact ⟨k + 1, by omega, by go_num, ⟨E, hP9, hok.out⟩, hb9⟩
              case measure => simp [intOf]; omega
        · go_wp2_with fail
          have hM0 := Mid.start hP.out hBr.out hszr o0 o1 o2 o3
          go_meet
          exact ⟨E, hM0.pl, hok.out, hM0.bel⟩
      · go_wp2_with fail
        go_meet
        exact ⟨E, hP.out, hok.out, hBr.out⟩
   case rest =>
    obtain ⟨E, hP, hok, hBr⟩ := hcut
    have hPX := hP.out
    have hbX := hBr.out
    go_wp2
    have hOK := hok.out
    go_loopw [208] (fun i ws => ∃ a : Nat, a ≤ 3 ∧ i = .int .i64 a ∧ Hid (Pl B ws Sb Wb 3 E) ∧ Hid (Below B W1 ws)) (fun i _ => 3 - (intOf i).toNat)
    case atStart => exact ⟨0, by omega, rfl, hPX, hbX⟩
    case round =>
      obtain ⟨a, ha, rfl, hPa, hba⟩ := hrel
      by_cases hla : a < 3
      · have ha0 : (0 : Int) ≤ (a : Int) := by omega
        have ha3 : (a : Int) < 3 := by omega
        have hwa : IntKind.i64.wrap (a : Int) = (a : Int) := by rw [IntKind.wrap_i64]; omega
        go_wp2
        go_loopw [211] (fun i wt => ∃ c : Nat, c ≤ 3 ∧ i = .int .i64 c ∧ Hid (Pl B wt Sb Wb 3 E) ∧ Hid (Below B W1 wt)) (fun i _ => 3 - (intOf i).toNat)
        case atStart => exact ⟨0, by omega, rfl, hPa.out, hba.out⟩
        case round =>
          obtain ⟨c, hc, rfl, hPc, hbc⟩ := hrel
          by_cases hlc' : c < 3
          · obtain ⟨r, R1, R2, RK⟩ := same_both B Sb Wb a c E wr hPc.out hOK hla hlc'
            have AL := alike_both B Sb Wb a E hOK hla
            obtain ⟨KA, hKA⟩ : ∃ K, keyS (keyB (E a).C (E a).m) = K := ⟨_, rfl⟩
            obtain ⟨KC, hKC⟩ : ∃ K, keyS (keyB (E c).C (E c).m) = K := ⟨_, rfl⟩
            have YA : Hid (∀ w, Pl B w Sb Wb 3 E → Calls Try.prog 27 #[at_p (E a).p] w fun e w' => e = .returned (.string KA) ∧ Below w.heap.size w w') := fun w hP => by rw [← hKA]; exact key_at _ _ _ _ _ w (hP.pt a hla).bs
            have YC : Hid (∀ w, Pl B w Sb Wb 3 E → Calls Try.prog 27 #[at_p (E c).p] w fun e w' => e = .returned (.string KC) ∧ Below w.heap.size w w') := fun w hP => by rw [← hKC]; exact key_at _ _ _ _ _ w (hP.pt c hlc').bs
            rw [hKA, hKC] at RK
            clear hKA hKC
            have hPd := hPc.out.below (Nat.le_refl _) (Below.refl _ _).drew
            have hbd := hbc.out.drew
            have hBd : B ≤ wr.drew.heap.size := by have := hbd.size; have := HBB.out; omega
            have hc0 : (0 : Int) ≤ (c : Int) := by omega
            have hc3 : (c : Int) < 3 := by omega
            have hwc : IntKind.i64.wrap (c : Int) = (c : Int) := by rw [IntKind.wrap_i64]; omega
            go_wp2
            have hBW : B ≤ W1.heap.size := Nat.le_of_eq HBB.out.symm
            haveI : Nonempty (Cls B W1 Sb Wb E) := ⟨⟨wr, hPc.out, hbc.out⟩⟩
            refine wp_region_cls (fun w' => ∃ n : Cls B W1 Sb Wb E, w' = n.w) (by kernel_rfl) (by kernel_rfl) ⟨⟨wr.drew, hPd, hbd⟩, rfl⟩ ?_
            repeat (first
              | go_big_quiet_step ((go_at_call 25; exact cls_call hBW R2.out _))
              | quiet_step ((go_at_call 25; exact cls_call hBW R2.out _)))
            refine wpQuiet_nil ?_
            intro _ hw'
            obtain ⟨n1, hw''⟩ := hw'
            subst hw''
            clear hPd hbd hBd hPc hbc R2
            go_wp2
            obtain ⟨na, hna⟩ : ∃ na, (E a).n = na := ⟨_, rfl⟩
            obtain ⟨nc, hnc⟩ : ∃ nc, (E c).n = nc := ⟨_, rfl⟩
            rw [hna, hnc] at RK
            have F1 : ∀ n : Cls B W1 Sb Wb E, n.w.cell? ⟨Sb, a, none⟩ = some (at_p (E a).p) := fun n => (n.pl.four hla hlc' hna hnc).1
            have F2 : ∀ n : Cls B W1 Sb Wb E, n.w.cell? ⟨Sb, c, none⟩ = some (at_p (E c).p) := fun n => (n.pl.four hla hlc' hna hnc).2.1
            have F3 : ∀ n : Cls B W1 Sb Wb E, n.w.cell? ⟨Wb, a, none⟩ = some (.slice (E a).a na (E a).c) := fun n => (n.pl.four hla hlc' hna hnc).2.2.1
            have F4 : ∀ n : Cls B W1 Sb Wb E, n.w.cell? ⟨Wb, c, none⟩ = some (.slice (E c).a nc (E c).c) := fun n => (n.pl.four hla hlc' hna hnc).2.2.2
            clear hna hnc
            obtain ⟨pa, hpa⟩ : ∃ pa, (E a).p = pa := ⟨_, rfl⟩
            obtain ⟨pc, hpc⟩ : ∃ pc, (E c).p = pc := ⟨_, rfl⟩
            rw [hpa] at AL F1 YA R1
            rw [hpc] at F2 YC R1
            clear hpa hpc
            by_cases hn : na = nc
            · subst hn
              have hrk := RK.out rfl
              clear RK
              cases r with
              | true =>
                have e1 : KA = KC := hrk.2 rfl
                subst e1
                clear hrk
                as_aux_lemma =>
                  refine wp_region_cls (fun w' => ∃ n : Cls B W1 Sb Wb E, w' = n.w) (by kernel_rfl) (by kernel_rfl) ⟨⟨n1.w.drew, n1.pl.below (Nat.le_refl _) (Below.refl _ _).drew, n1.bel.drew⟩, rfl⟩ ?_
                  repeat (first
                    | go_big_quiet_step (((first | (go_at_call 26; exact cls_call hBW AL.out _) | (go_at_call 24; exact cls_call hBW R1.out _) | (go_at_call_of 27 pa; exact cls_call hBW YA.out _) | (go_at_call_of 27 pc; exact cls_call hBW YC.out _))))
                    | quiet_step (((first | (go_at_call 26; exact cls_call hBW AL.out _) | (go_at_call 24; exact cls_call hBW R1.out _) | (go_at_call_of 27 pa; exact cls_call hBW YA.out _) | (go_at_call_of 27 pc; exact cls_call hBW YC.out _)))))
                  refine wpQuiet_nil ?_
                  intro _ hw'
                  obtain ⟨n2, hw''⟩ := hw'
                  subst hw''
                  go_wp2
                  go_roundw
                  case rel =>
                    first
                      | exact ⟨c + 1, by omega, by go_num, n2.pl, n2.bel⟩
                      | (repeat apply Exists.intro
                         exact ⟨⟨c + 1, by omega, by go_num, n2.pl, n2.bel⟩, rfl⟩)
                  case measure => simp [intOf]; omega
              | false =>
                have e1 : (KA.toList == KC.toList) = false := bytes_ne fun e => by have := hrk.1 e; cases this
                clear hrk
                as_aux_lemma =>
                  refine wp_region_cls (fun w' => ∃ n : Cls B W1 Sb Wb E, w' = n.w) (by kernel_rfl) (by kernel_rfl) ⟨⟨n1.w.drew, n1.pl.below (Nat.le_refl _) (Below.refl _ _).drew, n1.bel.drew⟩, rfl⟩ ?_
                  repeat (first
                    | go_big_quiet_step (((first | (go_at_call 26; exact cls_call hBW AL.out _) | (go_at_call 24; exact cls_call hBW R1.out _) | (go_at_call_of 27 pa; exact cls_call hBW YA.out _) | (go_at_call_of 27 pc; exact cls_call hBW YC.out _))))
                    | quiet_step (((first | (go_at_call 26; exact cls_call hBW AL.out _) | (go_at_call 24; exact cls_call hBW R1.out _) | (go_at_call_of 27 pa; exact cls_call hBW YA.out _) | (go_at_call_of 27 pc; exact cls_call hBW YC.out _)))))
                  refine wpQuiet_nil ?_
                  intro _ hw'
                  obtain ⟨n2, hw''⟩ := hw'
                  subst hw''
                  go_wp2
                  go_roundw
                  case rel =>
                    first
                      | exact ⟨c + 1, by omega, by go_num, n2.pl, n2.bel⟩
                      | (repeat apply Exists.intro
                         exact ⟨⟨c + 1, by omega, by go_num, n2.pl, n2.bel⟩, rfl⟩)
                  case measure => simp [intOf]; omega
            · have hnI : ¬ (na : Int) = (nc : Int) := by omega
              have hd1 : decide ((na : Int) = (nc : Int)) = false := decide_eq_false hnI
              clear RK
              cases r with
              | true =>
                as_aux_lemma =>
                  refine wp_region_cls (fun w' => ∃ n : Cls B W1 Sb Wb E, w' = n.w) (by kernel_rfl) (by kernel_rfl) ⟨⟨n1.w.drew, n1.pl.below (Nat.le_refl _) (Below.refl _ _).drew, n1.bel.drew⟩, rfl⟩ ?_
                  repeat (first
                    | go_big_quiet_step (((first | (go_at_call 26; exact cls_call hBW AL.out _) | (go_at_call 24; exact cls_call hBW R1.out _) | (go_at_call_of 27 pa; exact cls_call hBW YA.out _) | (go_at_call_of 27 pc; exact cls_call hBW YC.out _))))
                    | quiet_step (((first | (go_at_call 26; exact cls_call hBW AL.out _) | (go_at_call 24; exact cls_call hBW R1.out _) | (go_at_call_of 27 pa; exact cls_call hBW YA.out _) | (go_at_call_of 27 pc; exact cls_call hBW YC.out _)))))
                  refine wpQuiet_nil ?_
                  intro _ hw'
                  obtain ⟨n2, hw''⟩ := hw'
                  subst hw''
                  go_wp2
                  go_roundw
                  case rel =>
                    first
                      | exact ⟨c + 1, by omega, by go_num, n2.pl, n2.bel⟩
                      | (repeat apply Exists.intro
                         exact ⟨⟨c + 1, by omega, by go_num, n2.pl, n2.bel⟩, rfl⟩)
                  case measure => simp [intOf]; omega
              | false =>
                as_aux_lemma =>
                  refine wp_region_cls (fun w' => ∃ n : Cls B W1 Sb Wb E, w' = n.w) (by kernel_rfl) (by kernel_rfl) ⟨⟨n1.w.drew, n1.pl.below (Nat.le_refl _) (Below.refl _ _).drew, n1.bel.drew⟩, rfl⟩ ?_
                  repeat (first
                    | go_big_quiet_step (((first | (go_at_call 26; exact cls_call hBW AL.out _) | (go_at_call 24; exact cls_call hBW R1.out _) | (go_at_call_of 27 pa; exact cls_call hBW YA.out _) | (go_at_call_of 27 pc; exact cls_call hBW YC.out _))))
                    | quiet_step (((first | (go_at_call 26; exact cls_call hBW AL.out _) | (go_at_call 24; exact cls_call hBW R1.out _) | (go_at_call_of 27 pa; exact cls_call hBW YA.out _) | (go_at_call_of 27 pc; exact cls_call hBW YC.out _)))))
                  refine wpQuiet_nil ?_
                  intro _ hw'
                  obtain ⟨n2, hw''⟩ := hw'
                  subst hw''
                  go_wp2
                  go_roundw
                  case rel =>
                    first
                      | exact ⟨c + 1, by omega, by go_num, n2.pl, n2.bel⟩
                      | (repeat apply Exists.intro
                         exact ⟨⟨c + 1, by omega, by go_num, n2.pl, n2.bel⟩, rfl⟩)
                  case measure => simp [intOf]; omega
          · obtain rfl : c = 3 := by omega
            go_wp2
            go_roundw
            case rel =>
              first
                | exact ⟨a + 1, by omega, by go_num, hPc.out, hbc.out⟩
                | (repeat apply Exists.intro
                   exact ⟨⟨a + 1, by omega, by go_num, hPc.out, hbc.out⟩, rfl⟩)
            case measure => simp [intOf]; omega
      · obtain rfl : a = 3 := by omega
        go_wp2
        go_ret
        have h6 := hba.out.mono (Nat.le_of_lt hbB)
        exact ⟨rfl, by rw [HBX.out]; exact HB0.out.1.trans h6⟩
end Go.Proofs.Ytholafecbmhhhaa.Dg
