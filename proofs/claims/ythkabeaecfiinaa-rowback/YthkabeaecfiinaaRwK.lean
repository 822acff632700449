/- RowOnly: the mathematics and the walk. -/
import Derived.Test.YthkabeaecfiinaaRwJ
import Derived.Deep.RegionHeldLaw
import Derived.Deep.RegionWith
import Derived.BigRegion
namespace Go.Proofs.Ythkabeaecfiinaa.Ro
open Go.RowKit
set_option linter.unusedVariables false

theorem cb0_rise (k : Nat) (zs : List Int) : (cb0 k zs).Pairwise (fun c d => c.b < d.b) := by
  unfold cb0
  rw [List.pairwise_map]
  exact (cn_rise k zs).imp (fun h => by show (_ : Int) < _; exact Int.ofNat_lt.2 h)
theorem Unp.rise {cs : List Cb} {k : Nat} {zs : List Int} (h : Unp cs k zs) (i j : Nat) (hij : i < j) (hj : j < cs.length) : (cs.getD i default).b < (cs.getD j default).b := by
  have hp : cs.Pairwise (fun c d => c.b < d.b) := by rw [← h.cubes]; exact cb0_rise k zs
  have := List.pairwise_iff_getElem.1 hp i j (by omega) hj hij
  rwa [List.getD_eq_getElem?_getD, List.getD_eq_getElem?_getD, List.getElem?_eq_getElem hj, List.getElem?_eq_getElem (by omega : i < cs.length), Option.getD_some, Option.getD_some]
theorem Unp.hits {cs : List Cb} {k : Nat} {zs : List Int} (h : Unp cs k zs) (hk : k ≤ 6) (l : Nat) (hl : l < 2 ^ k) : (cs.filter (hit l)).length = 1 := by
  have := cb0_hits k zs hk h.len l hl
  rw [h.cubes] at this
  have := congrArg List.length this
  rwa [List.length_map] at this
/-- each cube has a letter of its own -/
theorem Unp.own {cs : List Cb} {k : Nat} {zs : List Int} (h : Unp cs k zs) (hk : k ≤ 6) (x : Cb) (hx : x ∈ cs) : ∃ l : Nat, l < 2 ^ k ∧ hit (l : Nat) x = true := by
  rw [← h.cubes] at hx
  unfold cb0 at hx
  obtain ⟨c, hc, rfl⟩ := List.mem_map.1 hx
  have ho := cn_ok k zs c hc
  have hp := pow_le hk
  have := ho.b
  refine ⟨c.b, ho.b, ?_⟩
  rw [hit_nat ho hk (by omega)]
  unfold hitN
  rw [ho.i, beq_self_eq_true]
theorem less_no {cs : List Cb} {k : Nat} {zs : List Int} (h : Unp cs k zs) (hk : k ≤ 6) (i : Nat) (hi : i < cs.length) : NoUnp (cs.take i ++ cs.drop (i + 1)) k := by
  rintro ⟨us, hu⟩
  obtain ⟨l, hl, hh⟩ := h.own hk cs[i] (List.getElem_mem hi)
  have h1 := h.hits hk l hl
  have h2 := hu.hits hk l hl
  have e : cs = cs.take i ++ cs[i] :: cs.drop (i + 1) := by rw [← List.drop_eq_getElem_cons hi, List.take_append_drop]
  rw [e, List.filter_append, List.filter_cons, if_pos hh, List.length_append, List.length_cons] at h1
  rw [List.filter_append, List.length_append] at h2
  omega
/-- the list with its i-th cube and its first one turned about -/
def swp (cs : List Cb) (i : Nat) : List Cb := (cs.set i (cs.getD 0 default)).set 0 (cs.getD i default)
theorem swp_zero (cs : List Cb) (h : 0 < cs.length) : swp cs 0 = cs := by
  cases cs with
  | nil => simp at h
  | cons x cs => rfl
theorem swp_no {cs : List Cb} {k : Nat} {zs : List Int} (h : Unp cs k zs) (i : Nat) (hi : i < cs.length) (h0 : i ≠ 0) : NoUnp (swp cs i) k := by
  rintro ⟨us, hu⟩
  have h1 := h.rise 0 i (by omega) hi
  have h2 := hu.rise 0 i (by omega) (by simpa [swp] using hi)
  have e1 : (swp cs i).getD 0 default = cs.getD i default := by
    unfold swp
    rw [List.getD_eq_getElem?_getD, List.getElem?_set_self (by simpa using by omega)]; rfl
  have e2 : (swp cs i).getD i default = cs.getD 0 default := by
    unfold swp
    rw [List.getD_eq_getElem?_getD, List.getElem?_set_ne (by omega), List.getElem?_set_self (by omega)]; rfl
  rw [e1, e2] at h2
  omega
theorem RdC.low {w : World} {g o n c : Nat} {cs : List Cb} {H : Nat} (h : RdC w (some ⟨g, o, none⟩) n c cs) (hH : H ≤ n) : RdC w (some ⟨g, o, none⟩) H c (cs.take H) := by
  refine ⟨by rw [List.length_take, h.eqlen]; omega, by have := h.lecap; omega, h.lemax, h.isnil, fun i hi => ?_⟩
  obtain ⟨b, off, e, hb, c0, c1, c2⟩ := h.cell i (by omega)
  have e2 : (cs.take H).getD i default = cs.getD i default := by rw [List.getD_eq_getElem?_getD, List.getD_eq_getElem?_getD, List.getElem?_take, if_pos hi]
  rw [e2]
  exact ⟨b, off, e, hb, c0, c1, c2⟩
theorem RdC.high {w : World} {g o n c : Nat} {cs : List Cb} {H : Nat} (h : RdC w (some ⟨g, o, none⟩) n c cs) (hH : H ≤ n) (p : Nat) (hp : H < n → p = o + H * 3) : RdC w (some ⟨g, p, none⟩) (n - H) (c - H) (cs.drop H) := by
  refine ⟨by rw [List.length_drop, h.eqlen], by have := h.lecap; omega, by have := h.lemax; omega, (fun e => nomatch e), fun i hi => ?_⟩
  obtain ⟨b, off, e, hb, c0, c1, c2⟩ := h.cell (H + i) (by omega)
  simp only [Option.some.injEq, Addr.mk.injEq, and_true] at e
  obtain ⟨rfl, rfl⟩ := e
  have e2 : (cs.drop H).getD i default = cs.getD (H + i) default := by rw [List.getD_eq_getElem?_getD, List.getD_eq_getElem?_getD, List.getElem?_drop]
  have e3 := hp (by omega)
  rw [e2]
  refine ⟨g, p, rfl, hb, ?_, ?_, ?_⟩
  · rw [show p + i * 3 = o + (H + i) * 3 by omega]; exact c0
  · rw [show p + i * 3 = o + (H + i) * 3 by omega]; exact c1
  · rw [show p + i * 3 = o + (H + i) * 3 by omega]; exact c2
/-- the same inside a drawn statement -/
theorem step_joinC {ops : Array Oper} {o : Oper} {a : Act} {K : Act → World → Prop} {Q : Exit → Act → World → Prop} {E : Prop} (Wc : World) (base : Nat) (hgd : o.guard = none) (s x : Operand)
    (ho : o.op = .call { callee := .builtin .append, args := #[s, x], argTypes := #[26, 26] }) (v : Value) (k : Nat) (O : List Cb) (hs : a.eval s = v) (ad : Addr) (m c : Nat) (D : List Cb) (hx : a.eval x = .slice (some ad) m c)
    (hown : Wc.ownsRow base 35 3 v k (cellsC O)) (hR : RdC Wc (some ad) m c D) (hbase : base ≤ Wc.heap.size) (hk : (k + m) * 24 ≤ 140737488355328)
    (h : ∀ v' w', w'.ownsRow base 35 3 v' (k + m) (cellsC (O ++ D)) → Kp v.ownBlock Wc w' → (∀ q, v'.ownBlock = some q → v.ownBlock = some q ∨ Wc.heap.size ≤ q) → K (a.put o.dst v') w') : if Region.wanted o (yielded ops a.tmps) = true then Oper.wp Try.prog o a Wc K Q else E := by
  obtain ⟨i0, hi, hz0, hz1, hz2⟩ := info_parts Try.infoCube
  have he := hR.eqlen
  have hw : Region.wanted o (yielded ops a.tmps) = true := by simp [Region.wanted, hgd]
  rw [if_pos hw]
  have hcells : ∀ j u, (cellsC D)[j]? = some u → Wc.cell? (ad.add j) = some u := by
    rcases Nat.eq_zero_or_pos m with hm | hm
    · subst hm
      have hz : D = [] := List.length_eq_zero_iff.1 hR.eqlen
      subst hz
      intro j u hj
      simp at hj
    · obtain ⟨b, off, e, _⟩ := hR.cell 0 hm
      simp only [Option.some.injEq] at e
      subst e
      exact cells_argC hR
  obtain ⟨v', w', hr, h2, h3, h4⟩ := run_append_where (P := Try.prog) base 26 o.type 35 i0 _ 3 24 Try.underlying26 hi hz0 hz1 hz2 rfl (by decide) v k (cellsC O) hown ad m c (cellsC D) (by rw [flat_len, he]) hcells (cells_one D) (by unfold maxLen; omega) (by omega) hbase
  unfold Oper.wp execOp
  simp only [ho, resolve, invoke, builtin, Sem.run_bind, Sem.run_pure, Result.andThen_ok, List.map_toArray, List.map_cons, List.map_nil, hs, hx, hr]
  exact h v' w' (by rw [cellsC, List.flatMap_append]; exact h2) h3 h4
theorem cells_setC (cs : List Cb) (i : Nat) (x : Cb) (hi : i < cs.length) : (((cellsC cs).set (i * 3) (.int .i64 x.m)).set (i * 3 + 1) (.int .i64 x.b)).set (i * 3 + 2) (.int .i64 x.t) = cellsC (cs.set i x) := by
  induction cs generalizing i with
  | nil => simp at hi
  | cons y cs ih =>
    cases i with
    | zero => rfl
    | succ i =>
      have := ih i (by simpa using hi)
      rw [List.set_cons_succ, cells_cons, cells_cons, ← this]
      rw [show (i + 1) * 3 = i * 3 + 1 + 1 + 1 by omega, show i * 3 + 1 + 1 + 1 + 1 = (i * 3 + 1) + 1 + 1 + 1 by omega, show i * 3 + 1 + 1 + 1 + 2 = (i * 3 + 2) + 1 + 1 + 1 by omega]
      rfl
theorem set_all {w : World} {base g n cap : Nat} {e : TypeId} {cs : List Cb} (h : w.ownsRow base e 3 (.slice (some ⟨g, 0, none⟩) n cap) n (cellsC cs)) (i : Nat) (hi : i < n) (x : Cb) (p : Nat) (hp : p = i * 3) :
    (∃ u, w.cell? ⟨g, p, none⟩ = some u) ∧ w.frozen? ⟨g, p, none⟩ = false ∧
    (∃ u, (w.setCell ⟨g, p, none⟩ (.int .i64 x.m)).cell? ⟨g, p + 1, none⟩ = some u) ∧ (w.setCell ⟨g, p, none⟩ (.int .i64 x.m)).frozen? ⟨g, p + 1, none⟩ = false ∧
    (∃ u, ((w.setCell ⟨g, p, none⟩ (.int .i64 x.m)).setCell ⟨g, p + 1, none⟩ (.int .i64 x.b)).cell? ⟨g, p + 2, none⟩ = some u) ∧ ((w.setCell ⟨g, p, none⟩ (.int .i64 x.m)).setCell ⟨g, p + 1, none⟩ (.int .i64 x.b)).frozen? ⟨g, p + 2, none⟩ = false ∧
    (((w.setCell ⟨g, p, none⟩ (.int .i64 x.m)).setCell ⟨g, p + 1, none⟩ (.int .i64 x.b)).setCell ⟨g, p + 2, none⟩ (.int .i64 x.t)).ownsRow base e 3 (.slice (some ⟨g, 0, none⟩) n cap) n (cellsC (cs.set i x)) ∧
    Kp (some g) w (((w.setCell ⟨g, p, none⟩ (.int .i64 x.m)).setCell ⟨g, p + 1, none⟩ (.int .i64 x.b)).setCell ⟨g, p + 2, none⟩ (.int .i64 x.t)) := by
  subst hp
  have hl := owns_clen h
  have h1 := (h.stored (i * 3) (.int .i64 x.m))
  have h2 := (h1.1.stored (i * 3 + 1) (.int .i64 x.b))
  have h3 := (h2.1.stored (i * 3 + 2) (.int .i64 x.t))
  refine ⟨own_at h _ (by omega), h.frozenAt _, own_at h1.1 _ (by omega), h1.1.frozenAt _, own_at h2.1 _ (by omega), h2.1.frozenAt _, ?_, Kp.trans (Kp.trans h1.2 h2.2 (fun q e => .inl e)) h3.2 (fun q e => .inl e)⟩
  have := h3.1
  rw [cells_setC cs i x (by omega)] at this
  exact this
theorem only_no (ao : Option Addr) (n c : Nat) (cs : List Cb) (t s : Int) (R : List Int) (er : Int) (w : World) (h : RdC w ao n c cs) (hm : n * 24 ≤ 140737488355328) (hv : unpV cs t R er) (he : ¬ er = 0) :
    Calls Try.prog 7 #[.slice ao n c, .int .i64 t, .int .i64 s] w fun e w' => e = .returned (.bool true) ∧ Below w.heap.size w w' := by
  have HV : Hid (unpV cs t R er) := hv
  have hR0 : R.length = 0 := by rcases hv with ⟨_, rfl, _⟩ | ⟨_, _, _, _, e⟩ | ⟨_, _, _, _, rfl, _⟩ <;> first | rfl | omega
  have he2 : er = 150 ∨ er = 3 := by rcases hv with ⟨_, _, e⟩ | ⟨_, _, _, _, e⟩ | ⟨_, _, _, _, _, e⟩ <;> omega
  have HU : Hid (∀ ao c w, RdC w ao n c cs → Calls Try.prog 14 #[.slice ao n c, .int .i64 t] w fun e w' => ∃ a' c', e = .returned (.tuple #[.slice a' 0 c', .int .i64 er]) ∧ Below w.heap.size w w') := fun ao c w h => by
    refine (unpack_V ao n c cs t R er w h HV.out).mono ?_
    rintro e w1 ⟨a', c', rfl, _, hB⟩
    exact ⟨a', c', by rw [hR0], hB⟩
  clear hv HV hR0
  rcases he2 with rfl | rfl
  all_goals
    go_enter Try.func7, Try.ntmps7
    go_wp2_with (first
      | (go_at_call 11; refine (fixed_at _).mono ?_; rintro e w1 ⟨rfl, hB1⟩; have hC1 := h.below (Nat.le_refl _) hB1)
      | (at_builtin; refine wp_copyC w1 rfl (.tmp 16) (.tmp 17) rfl rfl ao n c cs rfl hC1 hm ?_; intro v2 w2 hO2 hB2; obtain ⟨a2, c2, rfl, hR2⟩ := rdc_of_owns hO2; clear hO2; have hW2 := bt2 hB1 hB2)
      | (go_at_call 14; refine (HU.out _ _ _ hR2).mono ?_; rintro e w3 ⟨a3, c3, rfl, hB3⟩))
    go_ret
    exact ⟨by simp, bt2 hW2 hB3⟩
set_option maxHeartbeats 2000000 in
theorem only_yes (ao : Option Addr) (n c k : Nat) (cs : List Cb) (s : Int) (R : List Int) (w : World) (h : RdC w ao n c cs) (hm : n * 24 ≤ 140737488355328) (hk : k ≤ 6) (hu : Unp cs k R) (hs : -9223372036854775808 ≤ s ∧ s ≤ 9223372036854775807) :
    Calls Try.prog 7 #[.slice ao n c, .int .i64 (k : Nat), .int .i64 s] w fun e w' => e = .returned (.bool true) ∧ Below w.heap.size w w' := by
  have hcn := h.lecap
  have hcx := h.lemax
  have hn0 : 0 < n := by rw [← h.eqlen, ← hu.cubes]; exact cb0_pos k R
  have hn64 : n ≤ 64 := by rw [← h.eqlen]; exact Nat.le_trans hu.le (pow_le hk).2
  obtain ⟨g, o, rfl, _⟩ := h.cell 0 hn0
  have HV : Hid (unpV cs (k : Nat) R 0) := .inr (.inl ⟨k, hk, rfl, hu, rfl⟩)
  have HP : Hid (packV R cs 0) := .inl ⟨k, ⟨hk, hu.len, hu.pos⟩, hu.cubes.symm, rfl⟩
  have HL : Hid (cs.length = n) := h.eqlen
  have HR64 : Hid (R.length * 8 ≤ 140737488351232) := by have := unpV_len HV.out; show _ ≤ _; omega
  obtain ⟨I, hI⟩ : ∃ I : Nat, wrap64 ((IntKind.u64.wrap s).tmod (n : Int)) = I := by
    have h0 : 0 ≤ IntKind.u64.wrap s := by rw [IntKind.wrap_u64]; omega
    have h1 := Int.tmod_nonneg (n : Int) h0
    have h2 := Int.tmod_lt_of_pos (IntKind.u64.wrap s) (show (0 : Int) < n by omega)
    exact ⟨((IntKind.u64.wrap s).tmod (n : Int)).toNat, by unfold wrap64; omega⟩
  have hIn : I < n := by
    have h0 : 0 ≤ IntKind.u64.wrap s := by rw [IntKind.wrap_u64]; omega
    have h1 := Int.tmod_nonneg (n : Int) h0
    have h2 := Int.tmod_lt_of_pos (IntKind.u64.wrap s) (show (0 : Int) < n by omega)
    unfold wrap64 at hI; omega
  have HU : Hid (∀ ao c w, RdC w ao n c cs → Calls Try.prog 14 #[.slice ao n c, .int .i64 (k : Nat)] w fun e w' => ∃ a' c', e = .returned (.tuple #[.slice a' R.length c', .int .i64 0]) ∧ RdZ w' a' R.length c' R ∧ Below w.heap.size w w') := fun ao c w h => unpack_V ao n c cs _ R 0 w h HV.out
  have HPk : Hid (∀ ao c w, RdZ w ao R.length c R → Calls Try.prog 9 #[.slice ao R.length c] w fun e w' => ∃ a' c', e = .returned (.tuple #[.slice a' n c', .int .i64 0]) ∧ RdC w' a' n c' cs ∧ Below w.heap.size w w') := fun ao c w h => by
    refine (pack_any ao _ c R cs 0 w h HP.out).mono ?_
    rintro e w1 ⟨a', c', rfl, hO, hB⟩
    rw [HL.out] at hO ⊢
    exact ⟨a', c', rfl, rdc_own hO, hB⟩
  have HLs : Hid (NoUnp (cs.take I ++ cs.drop (I + 1)) k) := less_no hu hk I (by rw [HL.out]; exact hIn)
  have HSw : Hid (I ≠ 0 → NoUnp (swp cs I) k) := swp_no hu I (by rw [HL.out]; exact hIn)
  clear hu HP
  go_enter Try.func7, Try.ntmps7
  go_wp2_with (first
    | (go_at_call 11; refine (fixed_at _).mono ?_; rintro e w1 ⟨rfl, hB1⟩; have hC1 := h.below (Nat.le_refl _) hB1)
    | (at_builtin; refine wp_copyC w1 rfl (.tmp 16) (.tmp 17) rfl rfl _ n c cs rfl hC1 hm ?_; intro v2 w2 hO2 hB2; obtain ⟨a2, c2, rfl, hR2⟩ := rdc_of_owns hO2; clear hO2; have hW2 := bt2 hB1 hB2)
    | (go_at_call 14; refine (HU.out _ _ _ hR2).mono ?_; rintro e w3 ⟨a3, c3, rfl, hZ3, hB3⟩; have hW3 := bt2 hW2 hB3)
    | (at_builtin; refine wp_copyZ w3 w3 rfl (.tmp 37) (.tmp 38) rfl (Below.refl _ _) rfl a3 _ c3 R rfl hZ3 HR64.out ?_; intro a4 c4 w4 hZ4 hB4 hO4; clear hO4; have hW4 := bt2 hW3 hB4)
    | (go_at_call 9; refine (HPk.out _ _ _ hZ4).mono ?_; rintro e w5 ⟨a5, c5, rfl, hR5, hB5⟩; have hW5 := bt2 hW4 hB5; have hC5 := h.below (Nat.le_refl _) hW5)
    | (go_at_call 12; refine (cubes_at _ _ _ _ _ _ cs cs true _ hR5 hC5 ⟨fun _ => rfl, fun _ => rfl⟩).mono ?_; rintro e w6 ⟨rfl, hB6⟩; have hW6 := bt2 hW5 hB6; have hC6 := h.below (Nat.le_refl _) hW6))
  have hC6' := h.below (Nat.le_refl _) hW6
  have hIc : I ≤ c := by omega
  have hI1n : I + 1 ≤ n := by omega
  have hI1c : I + 1 ≤ c := by omega
  have hx0 : (0 : Int) ≤ (I : Int) := by omega
  have hw1 : IntKind.i64.wrap ((I : Int) + 1) = (I : Int) + 1 := by rw [IntKind.wrap_i64]; omega
  have hw2 : ((I : Int) + 1).toNat = I + 1 := by omega
  have hx1 : (0 : Int) ≤ (I : Int) + 1 := by omega
  have hx2 : (I : Int) + 1 ≤ (n : Int) := by omega
  have hx3 : (I : Int) + 1 ≤ (c : Int) := by omega
  have hx4 : (I : Int) ≤ (c : Int) := by omega
  have hlow := hC6'.low (H := I) (by omega)
  have hmade := World.ownsRow_made (base := w6.heap.size) (e := 35) (size := 3) w6 #[] 0 (Nat.le_refl _) (Nat.zero_le _) (by simp)
  have hSZ : Hid True := trivial
  by_cases hce : c = I + 1
  focus
    have hnI : n = I + 1 := by omega
    have hhigh : RdC w6 (some ⟨g, o, none⟩) 0 0 (cs.drop (I + 1)) := by
      have := hC6'.high (H := I + 1) (by omega) o (fun e => by omega)
      rwa [hnI, hce, Nat.sub_self] at this
    clear hnI
    subst hce
    go_region_held_law (fun _ => True) (trivial) (first
      | (refine step_joinC _ w6.heap.size (by rfl) (.tmp 67) (.tmp 71) (by rfl) v7 (0 + I) ([] ++ cs.take I) (by rfl) _ 0 0 (cs.drop (I + 1)) (by rfl) hO7 (hhigh.below (Nat.le_refl _) hB7) hB7.size (by omega) ?_; intro v8 w8 hO8 hK8 hq8)
      | (refine step_joinC _ w6.heap.size (by rfl) (.tmp 63) (.tmp 66) (by rfl) _ 0 [] (by rfl) _ I _ (cs.take I) (by rfl) (World.ownsRow.drew hmade) (hlow.below (Nat.le_refl _) (bal _ _).drew) (bal w6 _).drew.size (by omega) ?_; intro v7 w7 hO7 hK7 hq7; have hB7 : Below w6.heap.size w6 w7 := (bal w6 _).drew.trans (hK7.below (fun q hq => by simp only [Value.ownBlock, Option.some.injEq] at hq; omega) (bal w6 _).drew.size)))
  rotate_right
  focus
    have hhigh : RdC w6 (some ⟨g, o + (I + 1) * 3, none⟩) (n - (I + 1)) (c - (I + 1)) (cs.drop (I + 1)) := hC6'.high (H := I + 1) (by omega) _ (fun _ => rfl)
    go_region_held_law (fun _ => True) (trivial) (first
      | (refine step_joinC _ w6.heap.size (by rfl) (.tmp 67) (.tmp 71) (by rfl) v7 (0 + I) ([] ++ cs.take I) (by rfl) _ (n - (I + 1)) (c - (I + 1)) (cs.drop (I + 1)) (by rfl) hO7 (hhigh.below (Nat.le_refl _) hB7) hB7.size (by omega) ?_; intro v8 w8 hO8 hK8 hq8)
      | (refine step_joinC _ w6.heap.size (by rfl) (.tmp 63) (.tmp 66) (by rfl) _ 0 [] (by rfl) _ I _ (cs.take I) (by rfl) (World.ownsRow.drew hmade) (hlow.below (Nat.le_refl _) (bal _ _).drew) (bal w6 _).drew.size (by omega) ?_; intro v7 w7 hO7 hK7 hq7; have hB7 : Below w6.heap.size w6 w7 := (bal w6 _).drew.trans (hK7.below (fun q hq => by simp only [Value.ownBlock, Option.some.injEq] at hq; omega) (bal w6 _).drew.size)))
  all_goals
    have hB8 : Below w6.heap.size w6 w8 := hB7.trans (hK8.below (fun q hq => (hO7.lt q hq).1) hB7.size)
    obtain ⟨m8, hO8'⟩ : ∃ m8, w8.ownsRow w6.heap.size 35 3 v8 m8 (cellsC (cs.take I ++ cs.drop (I + 1))) := ⟨_, by simpa using hO8⟩
    clear hO8 hO7 hB7 hK7 hq7 hK8 hq8 hmade hhigh
    obtain ⟨a8, c8, rfl, hR8⟩ := rdc_of_owns hO8'
    have hW8 := bt2 hW6 hB8
    have hC8 := h.below (Nat.le_refl _) hW8
    have HV9 : Hid (unpV (cs.take I ++ cs.drop (I + 1)) (k : Nat) [] 3) := .inr (.inr ⟨k, hk, rfl, HLs.out, rfl, rfl⟩)
    clear hO8'
    go_wp2_with (first
      | (go_at_call 14; refine (unpack_V _ _ _ _ _ [] 3 _ hR8 HV9.out).mono ?_; rintro e w9 ⟨a9, c9, rfl, hZ9, hB9⟩; have hW9 := bt2 hW8 hB9; have hC9 := h.below (Nat.le_refl _) hW9; clear hR8)
      | (at_builtin; refine wp_copyC w9 rfl (.tmp 81) (.tmp 82) rfl rfl _ n _ cs rfl hC9 hm ?_; intro v10 w10 hO10 hB10; obtain ⟨a10, c10, rfl, hR10⟩ := rdc_of_owns hO10; have hW10 := bt2 hW9 hB10))
    obtain ⟨g1, rfl, hg1, hg2⟩ := own_some hO10 hn0
    have hL10 := HL.out
    obtain ⟨p0, p1, p2⟩ := ownsC_cell hO10 0 hn0
    obtain ⟨i0, i1, i2⟩ := ownsC_cell hO10 I hIn
    obtain ⟨⟨u0, e0⟩, f0, ⟨u1, e1⟩, f1, ⟨u2, e2⟩, f2, hOa, hKa⟩ := set_all hO10 I hIn (cs.getD 0 default) (I * 3) rfl
    obtain ⟨⟨y0, d0⟩, j0, ⟨y1, d1⟩, j1, ⟨y2, d2⟩, j2, hOb, hKb⟩ := set_all hOa 0 hn0 (cs.getD I default) 0 rfl
    have hSW : Hid ((cs.set I (cs.getD 0 default)).set 0 (cs.getD I default) = swp cs I) := rfl
    rw [hSW.out] at hOb
    generalize cs.getD 0 default = x at *
    generalize cs.getD I default = y at *
    obtain ⟨xm, xb, xt⟩ := x
    obtain ⟨ym, yb, yt⟩ := y
    simp only [Nat.zero_mul, Nat.zero_add] at p0 p1 p2 d0 d1 d2 j0 j1 j2 hOb hKb
    clear e0
    have hc10 := hR10.lecap
    have hd10 := hR10.lemax
    go_region
    have hOc := World.ownsRow.drew hOb
    have hEnd : Below w.heap.size w ((((((((w10.setCell ⟨g1, I * 3, none⟩ (.int .i64 xm)).setCell ⟨g1, I * 3 + 1, none⟩ (.int .i64 xb)).setCell ⟨g1, I * 3 + 2, none⟩ (.int .i64 xt)).setCell ⟨g1, 0, none⟩ (.int .i64 ym)).setCell ⟨g1, 1, none⟩ (.int .i64 yb)).setCell ⟨g1, 2, none⟩ (.int .i64 yt))).drew) :=
      (hW10.trans ((Kp.trans hKa hKb (fun q e => .inl e)).below (fun q e => by simp only [Option.some.injEq] at e; have := hW9.size; omega) hW10.size)).drew
    have hRc := rdc_own hOc
    clear hOc hOa hOb hKa hKb p0 p1 p2 i0 i1 i2 f0 e1 f1 e2 f2 d0 j0 d1 j1 d2 j2 hO10 hR10 hSW
    generalize ((((((((w10.setCell ⟨g1, I * 3, none⟩ (.int .i64 xm)).setCell ⟨g1, I * 3 + 1, none⟩ (.int .i64 xb)).setCell ⟨g1, I * 3 + 2, none⟩ (.int .i64 xt)).setCell ⟨g1, 0, none⟩ (.int .i64 ym)).setCell ⟨g1, 1, none⟩ (.int .i64 yb)).setCell ⟨g1, 2, none⟩ (.int .i64 yt))).drew) = w11 at *
    by_cases hI0 : I = 0
    · have HVS : Hid (unpV (swp cs I) (k : Nat) R 0) := by
        have e := swp_zero cs (by rw [hL10]; exact hn0)
        show unpV _ _ _ _
        rw [hI0, e]; exact HV.out
      have hI0' : (I : Int) = 0 := by omega
      go_wp2_with (go_at_call 14; refine (unpack_V _ _ _ _ _ R 0 _ hRc HVS.out).mono ?_; rintro e w12 ⟨a12, c12, rfl, hZ12, hB12⟩)
      go_ret
      exact ⟨by simp, bt2 hEnd hB12⟩
    · have HVS : Hid (unpV (swp cs I) (k : Nat) [] 3) := .inr (.inr ⟨k, hk, rfl, HSw.out hI0, rfl, rfl⟩)
      have hI0' : ¬ ((I : Int) = 0) := by omega
      go_wp2_with (go_at_call 14; refine (unpack_V _ _ _ _ _ [] 3 _ hRc HVS.out).mono ?_; rintro e w12 ⟨a12, c12, rfl, hZ12, hB12⟩)
      go_ret
      exact ⟨by simp, bt2 hEnd hB12⟩
theorem only_walk (ao : Option Addr) (n c : Nat) (cs : List Cb) (t s : Int) (w : World) (h : RdC w ao n c cs) (hm : n * 24 ≤ 140737488355328) (hs : -9223372036854775808 ≤ s ∧ s ≤ 9223372036854775807) :
    Calls Try.prog 7 #[.slice ao n c, .int .i64 t, .int .i64 s] w fun e w' => e = .returned (.bool true) ∧ Below w.heap.size w w' := by
  obtain ⟨R, er, hv⟩ := unpV_is cs t
  by_cases he : er = 0
  · rcases hv with ⟨_, _, e⟩ | ⟨k, hk, rfl, hz, e⟩ | ⟨k, _, _, _, _, e⟩
    · omega
    · exact only_yes ao n c k cs s R w h hm hk hz hs
    · omega
  · exact only_no ao n c cs t s R er w h hm hv he
end Go.Proofs.Ythkabeaecfiinaa.Ro
