/- BitsNil: the walk. -/
import Derived.Test.YtholafecbmhhhaaNilA
namespace Go.Proofs.Ytholafecbmhhhaa.Dg
open Go.RowKit
set_option linter.unusedVariables false

theorem rdz_own {w : World} {base : Nat} {ro : Option Addr} {k rc : Nat} {zs : List Int} (h : w.ownsRow base 3 1 (.slice ro k rc) k (cellsZ zs)) : RdZ w ro k rc zs := by
  obtain ⟨ro', rc', e, hR⟩ := rdz_of_owns h
  simp only [Value.slice.injEq, true_and] at e
  obtain ⟨rfl, rfl⟩ := e
  exact hR
theorem owns_pos {w : World} {base : Nat} {e : TypeId} {ro : Option Addr} {k rc : Nat} {xs : List Value} (h : w.ownsRow base e 1 (.slice ro k rc) k xs) (hk : 0 < k) : ∃ g, ro = some ⟨g, 0, none⟩ := by
  rcases h.2 with ⟨_, h0⟩ | ⟨g, cap, cur, hv, _⟩
  · omega
  · simp only [Value.slice.injEq] at hv
    exact ⟨g, hv.1⟩
theorem alloc_cell {W : World} {o : Obj} {b off : Nat} {v : Value} (h : W.cell? ⟨b, off, none⟩ = some v) : (W.alloc o).cell? ⟨b, off, none⟩ = some v :=
  (World.cell?_of_block (a := ⟨b, off, none⟩) (Below.heap_alloc _ _ _ (World.block_lt_of_cell? _ _ h))).trans h
theorem below_cell {W W' : World} {b off : Nat} {v : Value} (hB : Below W.heap.size W W') (h : W.cell? ⟨b, off, none⟩ = some v) : W'.cell? ⟨b, off, none⟩ = some v :=
  (hB.cell (p := ⟨b, off, none⟩) (World.block_lt_of_cell? _ _ h)).trans h
theorem long_ne {ra rb : Option Addr} {n ca cb ga' : Nat} {W : World} {o : Obj} (hab : ∀ b, (Value.slice rb n cb).ownBlock = some b → ∀ c, (Value.slice ra n ca).ownBlock = some c → b ≠ c) (hbl : ∀ c, (Value.slice rb n cb).ownBlock = some c → c < W.heap.size) (hd : (Value.slice ra n ca).ownBlock = some ga' ∨ (W.alloc o).heap.size ≤ ga') : some ga' ≠ (Value.slice rb n cb).ownBlock := by
  intro e
  rcases hd with hd | hd
  · exact hab ga' e.symm ga' hd rfl
  · have := hbl ga' e.symm
    rw [World.size_alloc] at hd
    omega
theorem kept_own {w w' : World} {base base' B : Nat} {e e' : TypeId} {v u : Value} {k k' : Nat} {xs ys : List Value} (h : w.ownsRow base e 1 v k xs) (hu : w.ownsRow base' e' 1 u k' ys) (hG : w.grownBy w' u.ownBlock) (hlt : ∀ b, v.ownBlock = some b → ∀ c, u.ownBlock = some c → b ≠ c) : w'.ownsRow base e 1 v k xs := by
  refine owns_frame h (fun g hg => ?_)
  refine hG.block g ((h.lt g hg).2) (fun e1 => hlt g hg g e1.symm rfl)
theorem kept_set {w w' : World} {p g n m : Nat} {C : List Nat} {row : Option Nat} (h : Bs w p g n m C) (hG : w.grownBy w' row) (hp : some p ≠ row) (hg : some g ≠ row) : Bs w' p g n m C :=
  h.frame (hG.block p h.plt hp) (hG.block g h.glt hg)
theorem list_z (p g n m : Nat) (C : List Nat) : ∃ (k : Nat) (Z : List Int), k ≤ n ∧ Hid (∀ w : World, Bs w p g n m C → Calls Try.prog 29 #[at_p p] w fun e w' => ∃ ro rc, e = .returned (.slice ro k rc) ∧ w'.ownsRow w.heap.size 3 1 (.slice ro k rc) k (cellsZ Z) ∧ Below w.heap.size w w') := by
  refine ⟨(lst (bools C n) n).length, (lst (bools C n) n).map (fun d : Nat => (d : Int)), lst_length _ _, fun w h => ?_⟩
  refine (blist_at p g n m C w h).mono ?_
  rintro e w' ⟨v, rfl, ho, hB⟩
  obtain ⟨ro, rc, rfl⟩ := owns_slice ho
  exact ⟨ro, rc, rfl, by rw [cellsZ, List.map_map]; exact ho, hB⟩
set_option maxHeartbeats 4000000 in
theorem nil_walk (x : Int) (ao : Option Addr) (len cap : Nat) (zs : List Int) (w : World) (h : RdZ w ao len cap zs) :
    Calls Try.prog 4 #[.int .i64 x, .slice ao len cap] w fun e w' => e = .returned (.bool true) ∧ Below w.heap.size w w' := by
  have hcap := h.lecap
  have hmax := h.lemax
  have HN : Hid (∀ w : World, Calls Try.prog 10 #[.int .i64 64] w fun e w' => ∃ p g, e = .returned (.tuple #[at_p p, .int .i64 0]) ∧ Bs w' p g 64 1 [0] ∧ w.heap.size ≤ p ∧ w.heap.size ≤ g ∧ Below w.heap.size w w') := fun w => bnew_in 64 w (by omega)
  go_enter Try.func4, Try.ntmps4
  go_wp2_with (first
    | (go_at_call 10; refine (HN.out _).mono ?_; rintro e w1 ⟨p, g, rfl, hS1, hp, hg, hB1⟩)
    | (go_at_call 9; refine (fixed_at _).mono ?_; rintro e w2 ⟨rfl, hB2⟩; have hW2 := hB1.trans (hB2.mono hB1.size); have hS2 := hS1.below (Nat.le_refl _) hB2)
    | (go_at_call 28; refine (none_at _ _ _).mono ?_; rintro e w3 ⟨rfl, hB3⟩; have hW3 := hW2.trans (hB3.mono hW2.size); have hS3 := hS2.below (Nat.le_refl _) hB3))
  go_loopw [38] (fun i wr => ∃ k : Nat, k ≤ len ∧ i = .int .i64 k ∧ (∃ C, Bs wr p g 64 1 C) ∧ Below w.heap.size w wr) (fun i _ => len - (intOf i).toNat)
  case atStart => exact ⟨0, Nat.zero_le _, rfl, ⟨_, hS3⟩, hW3⟩
  case round =>
    obtain ⟨k, hk, rfl, ⟨C, hS⟩, hB⟩ := hrel
    by_cases hlt : k < len
    · obtain ⟨b, off, rfl, hc⟩ := (h.below (Nat.le_refl _) hB).cell k hlt
      obtain ⟨i, hi, hmod0⟩ := rest_in (zs.getD k 0) 64 (by omega) (by omega)
      have hmod : wrap64 ((IntKind.u64.wrap (zs.getD k 0)).tmod 64) = (i : Int) := hmod0
      clear hmod0
      generalize zs.getD k 0 = z at hc hmod
      have HP : Hid (Calls Try.prog 13 #[at_p p, .int .i64 i] wr fun e w' => e = .returned (.int .i64 0) ∧ Bs w' p g 64 1 (putC C i) ∧ wr.grownBy w' (some g)) := put_in p g 64 1 i C wr hS hi
      go_wp2_with (go_at_call 13; refine HP.out.mono ?_; rintro e w4 ⟨rfl, hS4, hG4⟩)
      exact ⟨⟨k + 1, by omega, by go_num, ⟨_, hS4⟩, below_grown hB hG4 hB.size hg⟩, by simp [intOf]; omega⟩
    · obtain ⟨n, Z, hn, HL⟩ := list_z p g 64 1 C
      clear hS1 hS2 hS3 hW2 hW3 hB1 hB2 hB3
      go_wp2_with (first
        | (go_at_call 29; have _t := q2; refine (HL.out _ hS7).mono ?_; rintro e w8 ⟨rb, cb, rfl, hob, hB8⟩; have hW8 := hW7.trans (hB8.mono hW7.size))
        | (go_at_call 29; have _t := q1; refine (HL.out _ hS6).mono ?_; rintro e w7 ⟨ra, ca, rfl, hoa, hB7⟩; have hW7 := hW6.trans (hB7.mono hW6.size); have hS7 := hS6.below (Nat.le_refl _) hB7; have q2 : Hid True := trivial)
        | (at_builtin; refine wp_copyN w w5 rfl (.tmp 49) (.tmp 51) rfl hW5 rfl r5 n c5 Z rfl (rdz_own ho5) (by omega) ?_; intro rw cw w6 how hB6 hW6; have hS6 := hS5.below (Nat.le_refl _) hB6; have q1 : Hid True := trivial)
        | (go_at_call 29; refine (HL.out _ hS).mono ?_; rintro e w5 ⟨r5, c5, rfl, ho5, hB5⟩; have hW5 := hB.trans (hB5.mono hB.size); have hS5 := hS.below (Nat.le_refl _) hB5))
      have hca := (rdz_own hoa).lecap
      have hcx := (rdz_own hoa).lemax
      go_loopw [59] (fun i wr => ∃ j : Nat, j ≤ n ∧ i = .int .i64 j ∧ (∃ zs', wr.ownsRow w6.heap.size 3 1 (.slice ra n ca) n (cellsZ zs')) ∧ w8.grownBy wr (Value.slice ra n ca).ownBlock) (fun i _ => n - (intOf i).toNat)
      case atStart => exact ⟨0, Nat.zero_le _, rfl, ⟨Z, owns_frame hoa (fun b hb => hB8.block b (hoa.lt b hb).2)⟩, ⟨rfl, rfl, rfl, Nat.le_refl _, fun _ _ _ => rfl⟩⟩
      case round =>
        obtain ⟨j, hj, rfl, ⟨zs', hoz⟩, hG⟩ := hrel
        by_cases hlj : j < n
        · obtain ⟨ga, rfl⟩ := owns_pos hoz (by omega)
          have hcj := (rdz_own hoz).cell j hlj
          obtain ⟨b', off', e', hcj⟩ := hcj
          simp only [Option.some.injEq, Addr.mk.injEq, and_true] at e'
          obtain ⟨rfl, rfl⟩ := e'
          rw [Nat.zero_add] at hcj
          have hfz := hoz.frozenAt j
          have HZ : Hid ((wr.setCell ⟨ga, j, none⟩ (.int .i64 (-1))).ownsRow w6.heap.size 3 1 (.slice (some ⟨ga, 0, none⟩) n ca) n (cellsZ (zs'.set j (-1)))) := by
            have := (hoz.stored j (.int .i64 (-1))).1
            rwa [show (cellsZ zs').set j (.int .i64 (-1)) = cellsZ (zs'.set j (-1)) from by rw [cellsZ, cellsZ, List.map_set]] at this
          have HG : Hid (w8.grownBy (wr.setCell ⟨ga, j, none⟩ (.int .i64 (-1))) (Value.slice (some ⟨ga, 0, none⟩) n ca).ownBlock) := grown_setN hG
          clear hoz hG
          go_wp2
          go_roundw
          case rel => exact ⟨j + 1, by omega, by go_num, ⟨_, HZ.out⟩, HG.out⟩
          case measure => simp [intOf]; omega
        · have hsz68 : w6.heap.size ≤ w7.heap.size := hB7.size
          have hsz78 : w7.heap.size ≤ w8.heap.size := hB8.size
          have hsz06 : w.heap.size ≤ w6.heap.size := hW6.size
          have hoa8 : w8.ownsRow w6.heap.size 3 1 (.slice ra n ca) n (cellsZ Z) := owns_frame hoa (fun b hb => hB8.block b (hoa.lt b hb).2)
          have hWr : Below w.heap.size w wr := hW8.grown hG hW8.size (fun b hb => Nat.le_trans hsz06 (hoa.lt b hb).1)
          have hab : ∀ b, (Value.slice rb n cb).ownBlock = some b → ∀ c, (Value.slice ra n ca).ownBlock = some c → b ≠ c := fun b hb c hc => by
            have := (hob.lt b hb).1; have := (hoa.lt c hc).2; omega
          have haw : ∀ b, (Value.slice rw n cw).ownBlock = some b → ∀ c, (Value.slice ra n ca).ownBlock = some c → b ≠ c := fun b hb c hc => by
            have := (how.lt b hb).2; have := (hoa.lt c hc).1; omega
          have hbw : ∀ b, (Value.slice rw n cw).ownBlock = some b → ∀ c, (Value.slice rb n cb).ownBlock = some c → b ≠ c := fun b hb c hc => by
            have := (how.lt b hb).2; have := (hob.lt c hc).1; omega
          have hpa : some p ≠ (Value.slice ra n ca).ownBlock ∧ some g ≠ (Value.slice ra n ca).ownBlock := ⟨fun e => by have := (hoa.lt p e.symm).1; have := hS6.plt; omega, fun e => by have := (hoa.lt g e.symm).1; have := hS6.glt; omega⟩
          have hpb : some p ≠ (Value.slice rb n cb).ownBlock ∧ some g ≠ (Value.slice rb n cb).ownBlock := ⟨fun e => by have := (hob.lt p e.symm).1; have := hS7.plt; omega, fun e => by have := (hob.lt g e.symm).1; have := hS7.glt; omega⟩
          have hS9 : Bs wr p g 64 1 C := kept_set (hS7.below (Nat.le_refl _) hB8) hG hpa.1 hpa.2
          have hb9 : wr.ownsRow w7.heap.size 3 1 (.slice rb n cb) n (cellsZ Z) := kept_own (B := 0) hob hoa8 hG hab
          have hw9 : wr.ownsRow w5.heap.size 3 1 (.slice rw n cw) n (cellsZ Z) := kept_own (B := 0) (owns_frame how (fun b hb => (hB7.trans (hB8.mono hB7.size)).block b (how.lt b hb).2)) hoa8 hG haw
          have hrs : w8.heap.size ≤ wr.heap.size := hG.size
          have hbl : ∀ c, (Value.slice rb n cb).ownBlock = some c → c < wr.heap.size := fun c hc => (hb9.lt c hc).2
          have HAB : Hid (∀ b, (Value.slice rb n cb).ownBlock = some b → ∀ c, (Value.slice ra n ca).ownBlock = some c → b ≠ c) := hab
          have HAW : Hid (∀ b, (Value.slice rw n cw).ownBlock = some b → ∀ c, (Value.slice ra n ca).ownBlock = some c → b ≠ c) := haw
          have HBW : Hid (∀ b, (Value.slice rw n cw).ownBlock = some b → ∀ c, (Value.slice rb n cb).ownBlock = some c → b ≠ c) := hbw
          have HPA : Hid (some p ≠ (Value.slice ra n ca).ownBlock ∧ some g ≠ (Value.slice ra n ca).ownBlock) := hpa
          have HPB : Hid (some p ≠ (Value.slice rb n cb).ownBlock ∧ some g ≠ (Value.slice rb n cb).ownBlock) := hpb
          have HBL : Hid (∀ c, (Value.slice rb n cb).ownBlock = some c → c < wr.heap.size) := hbl
          have hs06 : w6.heap.size ≤ wr.heap.size := by omega
          have hs07 : w7.heap.size ≤ wr.heap.size := by omega
          have hsw7 : w.heap.size ≤ w7.heap.size := by omega
          clear hab haw hbw hpa hpb hbl hoa hoa8 hob how hG hS hS5 hS6 hS7 hW5 hW6 hW7 hW8 hB5 hB6 hB7 hB8 ho5 hB
          go_wp2_with (first
            | (at_builtin; have _t := q10; refine wp_push2 w _ w.heap.size w7.heap.size rfl (.tmp 71) (.tmp 72) rfl rb n cb Z 8 w10.heap.size rfl rfl (hb10.alloc _) (by simp) (by simp) (by omega) (size_new1 hs710 _) (hW10.alloc hW10.size _) hsw7 ?_; intro gb' cb' w11 m1 m2 m3 m4 hb11 hG11 hd11 hW11; have hw11 := kept_own (B := 0) (hw10.alloc _) (hb10.alloc _) hG11 HBW.out; have hS11 := kept_set (hS10.below (Nat.le_refl _) ((Below.refl _ _).alloc (Nat.le_refl _) _)) hG11 HPB.out.1 HPB.out.2; have hl11 := grown_cell hG11 (alloc_cell l1) (long_ne HAB.out HBL.out hd10))
            | (at_builtin; refine wp_push2 w _ w.heap.size w6.heap.size rfl (.tmp 68) (.tmp 69) rfl ra n ca zs' 7 wr.heap.size rfl rfl (hoz.alloc _) (by simp) (by simp) (by omega) (size_new1 hs06 _) (hWr.alloc hWr.size _) hsz06 ?_; intro ga' ca' w10 l1 l2 l3 l4 ha10 hG10 hd10 hW10; have hb10 := kept_own (B := 0) (hb9.alloc _) (hoz.alloc _) hG10 HAB.out; have hw10 := kept_own (B := 0) (hw9.alloc _) (hoz.alloc _) hG10 HAW.out; have hS10 := kept_set (hS9.below (Nat.le_refl _) ((Below.refl _ _).alloc (Nat.le_refl _) _)) hG10 HPA.out.1 HPA.out.2; have hs710 : w7.heap.size ≤ w10.heap.size := Nat.le_trans hs07 (Nat.le_trans (by simp) hG10.size); have q10 : Hid True := trivial)
            | (go_at_call 30; have _t := q13; refine (ints_at rl rw n cl n cw Z Z true _ (rdz_own hol) (rdz_own hw13) ⟨fun _ => rfl, fun _ => rfl⟩).mono ?_; rintro e w14 ⟨rfl, hB14⟩; have hW14 := hW13.trans (hB14.mono hW13.size); have hl14 := below_cell hB14 hl13; have hm14 := below_cell hB14 hm13; have hk14 := below_cell hB14 hk13)
            | (go_at_call 29; refine (HL.out _ hS12).mono ?_; rintro e w13 ⟨rl, cl, rfl, hol, hB13⟩; have hW13 := hW12.trans (hB13.mono hW12.size); have hl13 := below_cell hB13 hl12; have hm13 := below_cell hB13 hm12; have hk13 := below_cell hB13 hk12; have hw13 := owns_frame hw12 (fun b hb => hB13.block b (hw12.lt b hb).2); have q13 : Hid True := trivial)
            | (go_at_call 30; refine (ints_at rb rw n cb n cw Z Z true _ (rdz_own hb11) (rdz_own hw11) ⟨fun _ => rfl, fun _ => rfl⟩).mono ?_; rintro e w12 ⟨rfl, hB12⟩; have hW12 := hW11.trans (hB12.mono hW11.size); have hl12 := below_cell hB12 hl11; have hm12 := below_cell hB12 m1; have hk12 := below_cell hB12 m2; have hw12 := owns_frame hw11 (fun b hb => hB12.block b (hw11.lt b hb).2); have hS12 := hS11.below (Nat.le_refl _) hB12))
          go_ret
          exact ⟨rfl, hW14⟩
end Go.Proofs.Ytholafecbmhhhaa.Dg
