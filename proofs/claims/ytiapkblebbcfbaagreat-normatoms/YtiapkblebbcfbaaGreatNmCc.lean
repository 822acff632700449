/- The document's times. -/
import Derived.Test.YtiapkblebbcfbaaGreatNmCd
import Derived.Test.YtiapkblebbcfbaaGreatProducts
namespace Go.Proofs.YtiapkblebbcfbaaGreat.Gl
open Go Go.RowKit
set_option linter.unusedVariables false
set_option linter.unusedSimpArgs false

theorem bk_low {w w' : World} {a : Option Addr} {t : TypeId} (h : Bk w a t) (hb : Below w.heap.size w w') : Bk w' a t := h.below hb
def usT (p : Sm) (x : Int) : List Int := p.cs.map (fun z => Wd.nOf (z * x))
def FitT (p : Sm) (x : Int) (k : Nat) (e : Int) : Prop := (e = 0 ∧ ∀ z ∈ p.cs.take k, in64 (z * x) = true) ∨ (e = 91 ∧ ∃ z ∈ p.cs.take k, in64 (z * x) = false)
theorem FitT.step {p : Sm} {x : Int} {k : Nat} {e : Int} (h : FitT p x k e) (hk : k < p.cs.length) : FitT p x (k + 1) (if Wd.eOf (p.cs.getD k 0 * x) = 0 then e else 91) := by
  have ht : p.cs.take (k + 1) = p.cs.take k ++ [p.cs.getD k 0] := by rw [List.take_add_one, List.getElem?_eq_getElem hk, List.getD_eq_getElem?_getD, List.getElem?_eq_getElem hk]; rfl
  by_cases he : Wd.eOf (p.cs.getD k 0 * x) = 0
  · rw [if_pos he]
    rcases h with ⟨h0, h1⟩ | ⟨h0, y, hy, h1⟩
    · left
      refine ⟨h0, fun y hy => ?_⟩
      rw [ht] at hy
      rcases List.mem_append.1 hy with hy | hy
      · exact h1 y hy
      · rw [List.mem_singleton] at hy; subst hy; exact eOf_zero.1 he
    · right
      exact ⟨h0, y, by rw [ht]; exact List.mem_append_left _ hy, h1⟩
  · rw [if_neg he]
    right
    refine ⟨rfl, p.cs.getD k 0, by rw [ht]; exact List.mem_append_right _ (List.mem_singleton.2 rfl), ?_⟩
    cases hi : in64 (p.cs.getD k 0 * x) with
    | false => rfl
    | true => exact absurd (eOf_zero.2 hi) he
theorem usT_take (p : Sm) (x : Int) (k : Nat) (hk : k < p.cs.length) : (usT p x).take k ++ [Wd.nOf (p.cs.getD k 0 * x)] = (usT p x).take (k + 1) := by
  have hl : k < (usT p x).length := by simpa [usT] using hk
  rw [List.take_add_one, List.getElem?_eq_getElem hl]
  congr 1
  simp [usT, List.getD_eq_getElem?_getD, hk]
theorem finT {p : Sm} {x : Int} {e : Int} (h : FitT p x p.cs.length e) {w : World} {a co : Option Addr} {l c m d : Nat} (hN : RdS w a l c p.ns) (hK : Bk w a 9) (hZ : RdZ w co m d (usT p x)) (hC : Bk w co 2) :
    DSum w (mkS (scl p x)) (.agg (sum4 a co l c m d (Wd.nOf (p.k * x)) (if Wd.eOf (p.k * x) = 0 then e else 91))) := by
  rw [FitT, List.take_length] at h
  have hcs : (scl p x).cs = p.cs.map (fun z => z * x) := rfl
  have hks : (scl p x).k = p.k * x := rfl
  have hf : (scl p x).fits = true ↔ (∀ z ∈ p.cs, in64 (z * x) = true) ∧ in64 (p.k * x) = true := by
    unfold Sm.fits
    rw [hcs, hks, Bool.and_eq_true, List.all_eq_true]
    simp
  unfold mkS
  by_cases hfit : (scl p x).fits = true
  · rw [if_pos hfit]
    obtain ⟨h1, h2⟩ := hf.1 hfit
    have he : e = 0 := by
      rcases h with ⟨h, _⟩ | ⟨_, y, hy, hn⟩
      · exact h
      · rw [h1 y hy] at hn; cases hn
    refine ⟨a, co, l, c, m, d, ?_, hN, ?_, hK, hC⟩
    · rw [hks, nOf_in h2, if_pos (eOf_zero.2 h2), he]
    · rw [hcs]
      have hu : usT p x = p.cs.map (fun z => z * x) := List.map_congr_left fun y hy => nOf_in (h1 y hy)
      rw [← hu]
      exact hZ
  · rw [if_neg hfit]
    refine ⟨a, co, l, c, m, d, Wd.nOf (p.k * x), ?_, .inr rfl⟩
    congr 3
    rcases h with ⟨h, h1⟩ | ⟨h, _⟩
    · have : ¬ in64 (p.k * x) = true := fun h2 => hfit (hf.2 ⟨h1, h2⟩)
      rw [if_neg (fun e => this (eOf_zero.1 e))]
      rfl
    · subst h
      simp
set_option maxRecDepth 100000 in
set_option maxHeartbeats 4000000 in
theorem rtimes_at (p : Sm) (no co : Option Addr) (n c m d : Nat) (x : Int) (w : World) (h1 : RdS w no n c p.ns) (h2 : RdZ w co m d p.cs) (hn : n ≤ 1000) (hp : p.fits = true) (hmn : m = n) (hx : I64 x) (hK : Bk w no 9) :
    Calls Tryz.prog 40 #[.agg (sum4 no co n c m d p.k 0), .int .i64 x] w fun e w' => ∃ v, e = .returned v ∧ DSum w' (mkS (scl p x)) v ∧ Below w.heap.size w w' := by
  obtain rfl := hmn.symm
  have hB1 := bal w (.cells (sum4 no co n c n d p.k 0) 32)
  have hR1 := rb_new w (sum4 no co n c n d p.k 0) 32
  have hB2 := bal (w.alloc (.cells (sum4 no co n c n d p.k 0) 32)) (.cells z4 32)
  have hR2 := rb_new (w.alloc (.cells (sum4 no co n c n d p.k 0) 32)) z4 32
  have hB3 := bal ((w.alloc (.cells (sum4 no co n c n d p.k 0) 32)).alloc (.cells z4 32)) (.cells (sum4 no none n c 0 0 0 0) 32)
  have hR3 := rb_new ((w.alloc (.cells (sum4 no co n c n d p.k 0) 32)).alloc (.cells z4 32)) (sum4 no none n c 0 0 0 0) 32
  have PA := (hR1.keep hB2).keep hB3
  have ZA := hR2.keep hB3
  have hBw := bt2 (bt2 hB1 hB2) hB3
  have hcc := h1.lecap
  have hcm := h1.lemax
  have hdc := h2.lecap
  have hdm := h2.lemax
  have HL : Hid (p.cs.length = n) := h2.eqlen
  have hpc := mkHid (Sm.fits.c hp)
  have hpk := Sm.fits.k hp
  rw [show (w.alloc (.cells (sum4 no co n c n d p.k 0) 32)).heap.size = w.heap.size + 1 by simp] at ZA
  rw [show ((w.alloc (.cells (sum4 no co n c n d p.k 0) 32)).alloc (.cells z4 32)).heap.size = w.heap.size + 1 + 1 by simp] at hR3
  have hw3 : (((w.alloc (.cells (sum4 no co n c n d p.k 0) 32)).alloc (.cells z4 32)).alloc (.cells (sum4 no none n c 0 0 0 0) 32)).heap.size = w.heap.size + 3 := by simp
  have hnw : ∀ ad, no = some ad → 0 < n → ad.block < w.heap.size := fun ad e h0 => by
    obtain ⟨b, off, e2, hc⟩ := h1.cell 0 h0
    rw [e] at e2
    simp only [Option.some.injEq] at e2
    subst e2
    exact World.block_lt_of_cell? _ _ hc
  clear hB1 hB2 hB3 hR1 hR2 hp
  go_enter Tryz.func40, Tryz.ntmps40
  go_wp2_with (fail)
  generalize (((w.alloc (.cells (sum4 no co n c n d p.k 0) 32)).alloc (.cells z4 32)).alloc (.cells (sum4 no none n c 0 0 0 0) 32)) = wc at PA ZA hR3 hBw hw3 ⊢
  have hp7 : w.heap.size + 1 < w.heap.size + 1 + 1 := by omega
  have hp7s : w.heap.size + 1 + 1 < wc.heap.size := by omega
  generalize w.heap.size + 1 + 1 = p7 at hR3 hp7 hp7s ⊢
  have hne0 : w.heap.size ≠ p7 := by omega
  have hne1 : w.heap.size + 1 ≠ p7 := by omega
  go_loopw [6] (fun i wr => ∃ (k : Nat) (ck : Option Addr) (dk : Nat) (e : Int), k ≤ n ∧ i = .int .i64 k ∧ Rb wr p7 (sum4 no ck n c k dk 0 e) 32 ∧ wr.ownsRow wc.heap.size 2 1 (.slice ck k dk) k (cellsZ ((usT p x).take k)) ∧ Bux p7 wc wr ∧ Hid (FitT p x k e)) (fun i _ => n - (intOf i).toNat)
  case atStart => exact ⟨0, none, 0, 0, Nat.zero_le _, rfl, hR3, World.ownsRow_nil _ _ _ _, Bux.refl _ _, .inl ⟨rfl, fun x hx => by simp at hx⟩⟩
  case round =>
    obtain ⟨k, ck, dk, e, hk, rfl, hRk, hOk, hX, hFt⟩ := hrel
    have hBr : Below w.heap.size w wr := hBw.trans (hX.below (by omega) (by omega))
    have PB := PA.but hX hne0
    have pc : wr.cell? ⟨w.heap.size, 1, none⟩ = some (.slice co n d) := (txcell (vs := sum4 no co n c n d p.k 0) PB 1 _ rfl).1
    by_cases hlt : k < n
    · obtain ⟨gn, on, rfl, hzc0⟩ := h2.cell k hlt
      have hgw := World.block_lt_of_cell? _ _ hzc0
      have hzc : wr.cell? ⟨gn, on + k, none⟩ = some (.int .i64 (p.cs.getD k 0)) := (hBr.cell (p := ⟨gn, on + k, none⟩) hgw).trans hzc0
      have hzI : I64 (p.cs.getD k 0) := hpc.out _ (by rw [List.getD_eq_getElem?_getD, List.getElem?_eq_getElem (by rw [HL.out]; exact hlt)]; exact List.getElem_mem _)
      have hFs := mkHid (FitT.step hFt.out (by rw [HL.out]; exact hlt))
      have hUs := mkHid (usT_take p x k (by rw [HL.out]; exact hlt))
      clear hzc0 hFt
      generalize p.cs.getD k 0 = z at hzc hFs hUs hzI
      have ML := mkHid (Wd.ref_mul z x wr hzI.1 hzI.2 hx.1 hx.2)
      go_wp2_with (fail)
      refine ML.out.mono ?_
      rintro en w6 ⟨rfl, hBx⟩
      have hRx := hRk.keep hBx
      have hOx := owns_below hOk hBx
      have hXx := hX.trans (Bux.of hBx)
      clear pc hzc hRk hOk hX hBx PB ML hBr
      have hw6' : p7 < w6.heap.size := (Array.getElem?_eq_some_iff.1 hRx).1
      generalize Wd.nOf (z * x) = vv at hUs ⊢
      generalize Wd.eOf (z * x) = ee at hFs ⊢
      go_wp2_with (fail)
      generalize hee : (if ee = 0 then e else 91) = ex at hFs
      have hRd := hRx.keep (Below.refl w6.heap.size w6).drew
      have hI0 : I8 wc p7 no ck n c k dk e ex ((usT p x).take k) w6.drew := ⟨hXx.trans (Bux.of (Below.refl w6.heap.size w6).drew), ⟨e, .inl rfl, hRd⟩, hOx.drew⟩
      have NT : Hid (∀ y : World, I8 wc p7 no ck n c k dk e ex ((usT p x).take k) y → Calls Tryz.prog 27 #[.pointer (some ⟨p7, 0, none⟩), .int .i64 vv, .int .i64 ee] y fun en w' => en = .returned (.int .i64 vv) ∧ Rb w' p7 (sum4 no ck n c k dk 0 ex) 32 ∧ Bux p7 y w') := by
        intro y hy
        obtain ⟨e', he', hR⟩ := hy.blk
        have hx : (if ee = 0 then e' else 91) = ex := by
          rcases he' with rfl | rfl
          · exact hee
          · by_cases h0 : ee = 0
            · rw [if_pos h0]
            · rw [if_neg h0] at hee ⊢; exact hee
        have := note_any p7 vv ee no ck n c k dk 0 e' y hR
        rw [hx] at this
        exact this
      have hrr : ∀ y : World, Rel8 wc p7 no ck n c k dk e ex ((usT p x).take k) vv y y := fun y => Rel8.refl y
      refine wp_region_lastL (GS [(31, .pointer (some ⟨p7, 1, none⟩)), (32, .slice ck k dk), (33, .int .i64 vv), (34, .int .i64 ee), (38, .pointer (some ⟨p7, 1, none⟩))] [(35, P70 p7 no ck n c k dk ex vv), (36, P71 p7 no ck n c k dk ex vv), (37, P72 wc p7 no ck n c k dk e ex ((usT p x).take k) vv)]) (Rel8 wc p7 no ck n c k dk e ex ((usT p x).take k) vv) [31, 32, 33, 34, 35, 36, 37, 38] 8 (by kernel_rfl) (by kernel_rfl) hrr (fun x y z h k => h.trans _ _ _ k) (by kernel_rfl) (by kernel_rfl) ?_ ?_ ?_
      · refine gs_keep ?_
        intro q hq v y z hP hb
        simp only [List.mem_cons, List.not_mem_nil, or_false] at hq
        rcases hq with rfl | rfl | rfl
        · exact P70.keep hP hb
        · exact P71.keep hP hb
        · exact P72.keep hP hb
      · intro k o hk ho
        have hk' : k < 8 := hk
        rcases (show k = 0 ∨ k = 1 ∨ k = 2 ∨ k = 3 ∨ k = 4 ∨ k = 5 ∨ k = 6 ∨ k = 7 by omega) with rfl | rfl | rfl | rfl | rfl | rfl | rfl | rfl
        · have ho' : some _ = some o := ho
          cases ho'
          refine rlstep_of fun a w6 hold hdep hrel K hK => ?_
          have e5 := (hold 5 (by decide)).trans (show _ = some (.pointer (some ⟨p7, 0, none⟩)) from rfl)
          have h5 := eval_tmp9 e5
          unfold Oper.wp
          simp only [execOp, h5]
          go_simp
          exact hK _ _ (fun d hd => by cases (show some 31 = some d from hd); exact rfl) (hrr _)
        · have ho' : some _ = some o := ho
          cases ho'
          refine rlstep_of fun a w6 hold hdep hrel K hK => ?_
          obtain ⟨u31, e31, g31⟩ := hdep _ (Array.mem_of_getElem? (i := 0) rfl) _ _ rfl rfl rfl
          obtain rfl : u31 = .pointer (some ⟨p7, 1, none⟩) := g31
          have h31 := eval_tmp9 e31
          unfold Oper.wp
          simp only [execOp, h31]
          have f0 := (hrel.inv hI0).c1
          go_simp
          exact hK _ _ (fun d hd => by cases (show some 32 = some d from hd); exact rfl) (hrr _)
        · have ho' : some _ = some o := ho
          cases ho'
          refine rlstep_of fun a w6 hold hdep hrel K hK => ?_
          have e7 := (hold 7 (by decide)).trans (show _ = some (.int .i64 vv) from rfl)
          have h7 := eval_tmp9 e7
          unfold Oper.wp
          simp only [execOp, h7]
          go_simp
          exact hK _ _ (fun d hd => by cases (show some 33 = some d from hd); exact rfl) (hrr _)
        · have ho' : some _ = some o := ho
          cases ho'
          refine rlstep_of fun a w6 hold hdep hrel K hK => ?_
          have e8 := (hold 8 (by decide)).trans (show _ = some (.int .i64 ee) from rfl)
          have h8 := eval_tmp9 e8
          unfold Oper.wp
          simp only [execOp, h8]
          go_simp
          exact hK _ _ (fun d hd => by cases (show some 34 = some d from hd); exact rfl) (hrr _)
        · have ho' : some _ = some o := ho
          cases ho'
          refine rlstep_of fun a w6 hold hdep hrel K hK => ?_
          have e5 := (hold 5 (by decide)).trans (show _ = some (.pointer (some ⟨p7, 0, none⟩)) from rfl)
          have h5 := eval_tmp9 e5
          obtain ⟨u33, e33, g33⟩ := hdep _ (Array.mem_of_getElem? (i := 0) rfl) _ _ rfl rfl rfl
          obtain rfl : u33 = .int .i64 vv := g33
          have h33 := eval_tmp9 e33
          obtain ⟨u34, e34, g34⟩ := hdep _ (Array.mem_of_getElem? (i := 1) rfl) _ _ rfl rfl rfl
          obtain rfl : u34 = .int .i64 ee := g34
          have h34 := eval_tmp9 e34
          unfold Oper.wp
          simp only [execOp, h5, h33, h34]
          go_simp
          refine (NT.out w6 (hrel.inv hI0)).mono ?_
          rintro en w8 ⟨rfl, hR8, hX8⟩
          exact hK _ _ (fun d hd => by cases (show some 35 = some d from hd); exact ⟨rfl, hR8⟩) (Rel8.note hp7s hX8 hR8)
        · have ho' : some _ = some o := ho
          cases ho'
          refine rlstep_of fun a w6 hold hdep hrel K hK => ?_
          obtain ⟨u35, e35, g35⟩ := hdep _ (Array.mem_of_getElem? (i := 0) rfl) _ _ rfl rfl rfl
          obtain ⟨rfl, q35⟩ := (show P70 p7 no ck n c k dk ex vv u35 w6 from g35)
          have h35 := eval_tmp9 e35
          unfold Oper.wp
          simp only [execOp, h35]
          have hI6 := hrel.inv hI0
          go_simp
          exact hK _ _ (fun d hd => by cases (show some 36 = some d from hd); exact ⟨w6.heap.size, rfl, cell_new1 _ _ _, (by have := (Array.getElem?_eq_some_iff.1 q35).1; omega), (fun ad he => by have := (hI6.row_ne ad he).2; omega), q35.keep (bal w6 _)⟩) (Rel8.of (bal w6 _))
        · have ho' : some _ = some o := ho
          cases ho'
          refine rlstep_of fun a w6 hold hdep hrel K hK => ?_
          obtain ⟨u32, e32, g32⟩ := hdep _ (Array.mem_of_getElem? (i := 0) rfl) _ _ rfl rfl rfl
          obtain rfl : u32 = .slice ck k dk := g32
          have h32 := eval_tmp9 e32
          obtain ⟨u36, e36, g36⟩ := hdep _ (Array.mem_of_getElem? (i := 1) rfl) _ _ rfl rfl rfl
          obtain ⟨x36, rfl, q36⟩ := (show P71 p7 no ck n c k dk ex vv u36 w6 from g36)
          have h36 := eval_tmp9 e36
          have hI6 := hrel.inv hI0
          refine op_pushE w6 wc.heap.size (.tmp 32) (.tmp 36) rfl ck k dk ((usT p x).take k) h32 x36 vv h36 hI6.own q36.1 hI6.bux.size (by omega) ?_
          intro a' c' w8 hO8 hL8 hb8 ho8
          have hr8 := Rel8.push (p := p7) (a := no) (l := n) (c := c) (k := k) (dk := dk) (e := e) (ex := ex) hp7s hL8 hb8 ho8
          exact hK _ _ (fun d hd => by cases (show some 37 = some d from hd); exact ⟨a', c', rfl, hO8, hr8.noted q36.2.2.2, hr8.inv hI6⟩) hr8
        · have ho' : some _ = some o := ho
          cases ho'
          refine rlstep_of fun a w6 hold hdep hrel K hK => ?_
          have e5 := (hold 5 (by decide)).trans (show _ = some (.pointer (some ⟨p7, 0, none⟩)) from rfl)
          have h5 := eval_tmp9 e5
          unfold Oper.wp
          simp only [execOp, h5]
          go_simp
          exact hK _ _ (fun d hd => by cases (show some 38 = some d from hd); exact rfl) (hrr _)
      · intro vs w6 o' ho' hrel hG
        have v31 : vs 31 = .pointer (some ⟨p7, 1, none⟩) := hG 31 (by decide)
        have v32 : vs 32 = .slice ck k dk := hG 32 (by decide)
        have v33 : vs 33 = .int .i64 vv := hG 33 (by decide)
        have v34 : vs 34 = .int .i64 ee := hG 34 (by decide)
        have v38 : vs 38 = .pointer (some ⟨p7, 1, none⟩) := hG 38 (by decide)
        obtain ⟨c9, d9, v37, hO9, hR9, hI9⟩ := (show P72 wc p7 no ck n c k dk e ex ((usT p x).take k) vv (vs 37) w6 from hG 37 (by decide))
        obtain ⟨x70, v35⟩ : ∃ x, vs 35 = x := ⟨_, rfl⟩
        obtain ⟨x71, v36⟩ : ∃ x, vs 36 = x := ⟨_, rfl⟩
        have ho'' : some _ = some o' := ho'
        cases ho''
        have hcf := c1_of hR9
        have d3 := hcf.1
        have f3 := hcf.2
        clear hcf
        have hX9 := hI9.bux.set 1 (.slice c9 (k + 1) d9)
        replace hO9 := owns_other (X := p7) hO9 (fun g hg => by have := (hO9.lt g hg).1; omega) 1 (.slice c9 (k + 1) d9)
        replace hR9 : Rb (w6.setCell ⟨p7, 1, none⟩ (.slice c9 (k + 1) d9)) p7 (sum4 no c9 n c (k + 1) d9 0 ex) 32 := c1_set hR9
        simp only [putR, v31, v32, v33, v34, v35, v36, v37, v38]
        clear v31 v32 v33 v34 v35 v36 v37 v38 hG hrel hI9 NT hI0 hRd
        unfold Oper.wp
        simp only [execOp]
        go_simp
        clear d3 f3
        generalize w6.setCell ⟨p7, 1, none⟩ (.slice c9 (k + 1) d9) = w8 at hR9 hO9 hX9 ⊢
        go_wp2
        go_roundw
        case rel => exact ⟨k + 1, c9, d9, ex, by omega, by go_num, hR9, by rw [hUs.out] at hO9; exact hO9, hX9, hFs⟩
        case measure => simp [intOf]; omega
    · obtain rfl : k = n := by omega
      rw [show (usT p x).take k = usT p x from List.take_of_length_le (by simp [usT, HL.out])] at hOk
      have ZB := ZA.but hX hne1
      have pk : wr.cell? ⟨w.heap.size, 2, none⟩ = some (.int .i64 p.k) := (txcell (vs := sum4 no co k c k d p.k 0) PB 2 _ rfl).1
      have ML := mkHid (Wd.ref_mul p.k x wr hpk.1 hpk.2 hx.1 hx.2)
      clear hpk PA ZA hR3 hBw
      go_wp2_with (fail)
      refine ML.out.mono ?_
      rintro en w5 ⟨rfl, hB5⟩
      clear pc pk ML
      have hFin := mkHid (fun (w' : World) (hN : RdS w' no k c p.ns) (hZ : RdZ w' ck k dk (usT p x)) (hK : Bk w' no 9) (hC : Bk w' ck 2) => finT (p := p) (x := x) (by rw [HL.out]; exact hFt.out) hN hK hZ hC)
      have hR5 := hRk.keep hB5
      have hO5 := owns_below hOk hB5
      have ZB5 := ZB.keep hB5
      have hB05 := bt2 hBr hB5
      have hx5 := hB5.size
      have hxr := hX.size
      clear hFt hRk hOk ZB hB5 hBr PB hX
      generalize Wd.nOf (p.k * x) = vv at hFin ⊢
      generalize Wd.eOf (p.k * x) = ee at hFin ⊢
      go_wp2_with (fail)
      have NT := mkHid (note_any p7 vv ee no ck k c k dk 0 e w5 hR5)
      generalize (if ee = 0 then e else 91) = ex at hFin NT
      refine NT.out.mono ?_
      rintro en w6 ⟨rfl, hR6, hX6⟩
      obtain ⟨c2, f2⟩ := c2_of hR6
      have hO6 := owns_but hO5 hX6 hp7s
      have ZB6 := ZB5.but hX6 hne1
      have hB06 := hB05.trans (hX6.below (B := w.heap.size) (by omega) (by omega))
      have hx6 := hX6.size
      have hR7 := c2_set (v := vv) hR6
      have hO7 := owns_other (X := p7) hO6 (fun g hg => by have := (hO6.lt g hg).1; omega) 2 (.int .i64 vv)
      have ZB7 := ZB6.other hne1 2 (.int .i64 vv)
      have hB07 := hB06.setCell (p := ⟨p7, 2, none⟩) (show w.heap.size ≤ p7 by omega) (.int .i64 vv)
      obtain ⟨m0, m1, m2, m3⟩ := cells4 hR7
      obtain ⟨⟨z0, y0⟩, ⟨z1, y1⟩, ⟨z2, y2⟩, ⟨z3, y3⟩⟩ := cellsZ4 ZB7
      have hR9 := rb_four ZB7 rfl (.slice no k c) (.slice ck k dk) (.int .i64 vv) (.int .i64 ex)
      have hO9 := owns_other (X := w.heap.size + 1) (owns_st3 (X := w.heap.size + 1) hO7 (fun g hg => by have := (hO7.lt g hg).1; omega) (.slice no k c) (.slice ck k dk) (.int .i64 vv)) (fun g hg => by have := (hO7.lt g hg).1; omega) 3 (.int .i64 ex)
      have hB9 := (bel_st3 hB07 (show w.heap.size ≤ w.heap.size + 1 by omega) (.slice no k c) (.slice ck k dk) (.int .i64 vv)).setCell (p := ⟨w.heap.size + 1, 3, none⟩) (show w.heap.size ≤ w.heap.size + 1 by omega) (.int .i64 ex)
      have hN9 := h1.below (Nat.le_refl _) hB9
      obtain ⟨ro, cr, hv9, hZ9⟩ := rdz_of_owns hO9
      simp only [Value.slice.injEq, true_and] at hv9
      obtain ⟨rfl, rfl⟩ := hv9
      have HF := mkHid (hFin.out _ hN9 hZ9 (bk_low hK hB9) (bk_of_owns hO9))
      clear hFin hO5 hO6 hO7 hO9 hN9 hZ9 ZB5 ZB6 hB05 hB06 hB07 NT hX6
      go_wp2_with (fail)
      obtain ⟨k0, k1, k2, k3⟩ := cells4 hR9
      exact bodyPost_ret (v := .agg (sum4 no ck k c k dk vv ex)) (by simp [results, Tryz.results40, go_sem, k0, k1, k2, k3]) rfl ⟨_, rfl, HF.out, hB9⟩
end Go.Proofs.YtiapkblebbcfbaaGreat.Gl
