/- The program's set: Key. -/
import Derived.Test.YtholafecbmhhhaaCntMath
import Derived.Laws.BytesString
namespace Go.Proofs.Ytholafecbmhhhaa.Dg
open Go.RowKit
set_option linter.unusedVariables false

theorem Try.infoY : (Try.prog.info? 5).map (fun i => (i.zero, i.size, i.bytes)) = some (some (.int .u8 0), 1, 1) := by kernel_rfl
abbrev cellsY (O : List Nat) : List Value := O.map (fun d : Nat => Value.int .u8 (d : Int))
/-- the bytes of the first k cells -/
def keyB (C : List Nat) : Nat → List Nat
  | 0 => []
  | k + 1 => keyB C k ++ bytes 8 (C.getD k 0)
theorem keyB_length (C : List Nat) (k : Nat) : (keyB C k).length = 8 * k := by
  induction k with
  | zero => rfl
  | succ k ih => rw [keyB, List.length_append, ih, bytes_length]; omega
theorem bytes_get (n x s : Nat) (h : s < n) : (bytes n x).getD s 0 = x / 2 ^ (8 * s) % 256 := by
  induction n generalizing x s with
  | zero => omega
  | succ n ih =>
    cases s with
    | zero => simp [bytes]
    | succ s =>
      rw [bytes, List.getD_cons_succ, ih _ _ (by omega), show 8 * (s + 1) = 8 + 8 * s from by omega, Nat.pow_add, ← Nat.div_div_eq_div_mul]
theorem bytes_take (n x s : Nat) (h : s < n) : (bytes n x).take (s + 1) = (bytes n x).take s ++ [x / 2 ^ (8 * s) % 256] := by
  rw [List.take_succ_eq_append_getElem (by rw [bytes_length]; exact h), ← bytes_get n x s h, List.getD_eq_getElem?_getD, List.getElem?_eq_getElem (by rw [bytes_length]; exact h), Option.getD_some]
/-- 'key = append(key, b)', there is room -/
theorem wp_pushY {ops : Array Oper} {rest : List Oper} {o : Oper} {a : Act} {Q : Exit → Act → World → Prop} (W0 Wc : World) (B base : Nat) (hgd : o.guard = none) (s x : Operand)
    (ho : o.op = .call { callee := .builtin .append, args := #[s, x], argTypes := #[79, 79] }) (g2 k cap : Nat) (O : List Nat) (hs : a.eval s = .slice (some ⟨g2, 0, none⟩) k cap) (g : Nat) (d : Nat) (c : Int) (hx : a.eval x = .slice (some ⟨g, 0, none⟩) 1 1)
    (hown : Wc.ownsRow base 5 1 (.slice (some ⟨g2, 0, none⟩) k cap) k (cellsY O)) (hcell : Wc.cell? ⟨g, 0, none⟩ = some (.int .u8 c)) (hd : c = (d : Int)) (hbase : base ≤ Wc.heap.size) (hk : k + 1 ≤ cap) (hbel : Below B W0 Wc) (hB : B ≤ base)
    (h : ∀ w', w'.ownsRow base 5 1 (.slice (some ⟨g2, 0, none⟩) (k + 1) cap) (k + 1) (cellsY (O ++ [d])) → Below B W0 w' → wpList Try.prog ops Q rest (a.put o.dst (.slice (some ⟨g2, 0, none⟩) (k + 1) cap)) w') : wpList Try.prog ops Q (o :: rest) a Wc := by
  subst hd
  obtain ⟨i0, hi, hz0, hz1, hz2⟩ := info_parts Try.infoY
  refine wpList_append_fits _ hgd s x 79 ho base 5 i0 1 Try.underlying79 hi hz1 g2 k cap _ hs hown ⟨g, 0, none⟩ 1 1 [.int .u8 (d : Int)] hx rfl ?_ ?_ hk ?_
  · intro j u hj
    match j, hj with
    | 0, hj => simp at hj; subst hj; simpa [Addr.add] using hcell
  · intro u hu; simp at hu; subst hu; rfl
  · intro w' h1 h2
    refine h w' (by simpa [cellsY] using h1) (hbel.grown h2 (by omega) ?_)
    intro q hq
    have := hown.lt q hq
    omega
/-- the text of bytes -/
def keyS (L : List Nat) : ByteArray := (L.map (fun n : Nat => (n : Int))).foldl (fun r n => r.push (UInt8.ofNat n.toNat)) ByteArray.empty
theorem keyS_data (L : List Nat) : (keyS L).data.toList = L.map UInt8.ofNat := by
  have gen : ∀ (L : List Nat) (s : ByteArray), ((L.map (fun n : Nat => (n : Int))).foldl (fun r n => r.push (UInt8.ofNat n.toNat)) s).data.toList = s.data.toList ++ L.map UInt8.ofNat := by
    intro L
    induction L with
    | nil => intro s; simp
    | cons x r ih => intro s; rw [List.map_cons, List.foldl_cons, ih]; simp [ByteArray.push]
  rw [keyS, gen]; rfl
theorem map8_inj : ∀ (L M : List Nat), (∀ x ∈ L, x < 256) → (∀ x ∈ M, x < 256) → L.map UInt8.ofNat = M.map UInt8.ofNat → L = M := by
  intro L
  induction L with
  | nil => intro M _ _ h; cases M with
    | nil => rfl
    | cons => simp at h
  | cons x r ih =>
    intro M hL hM h
    cases M with
    | nil => simp at h
    | cons y t =>
      simp only [List.map_cons, List.cons.injEq] at h
      obtain ⟨h1, h2⟩ := h
      have hx := hL x List.mem_cons_self
      have hy := hM y List.mem_cons_self
      have e : x = y := by
        have := congrArg UInt8.toNat h1
        rw [UInt8.toNat_ofNat', UInt8.toNat_ofNat', Nat.mod_eq_of_lt (by omega), Nat.mod_eq_of_lt (by omega)] at this
        exact this
      rw [e, ih t (fun z hz => hL z (List.mem_cons_of_mem _ hz)) (fun z hz => hM z (List.mem_cons_of_mem _ hz)) h2]
theorem keyB_lt (C : List Nat) (k : Nat) : ∀ x ∈ keyB C k, x < 256 := by
  induction k with
  | zero => intro x hx; cases hx
  | succ k ih =>
    intro x hx
    rw [keyB] at hx
    rcases List.mem_append.1 hx with hx | hx
    · exact ih x hx
    · exact bytes_lt 8 _ x hx
theorem keyB_inj (C D : List Nat) (k : Nat) (hC : ∀ q, C.getD q 0 < 18446744073709551616) (hD : ∀ q, D.getD q 0 < 18446744073709551616) (h : keyB C k = keyB D k) : ∀ q, q < k → C.getD q 0 = D.getD q 0 := by
  induction k with
  | zero => intro q hq; omega
  | succ k ih =>
    rw [keyB, keyB] at h
    obtain ⟨h1, h2⟩ := List.append_inj h (by rw [keyB_length, keyB_length])
    intro q hq
    rcases Nat.lt_succ_iff_lt_or_eq.1 hq with hq | rfl
    · exact ih h1 q hq
    · rw [← join_bytes 8 (C.getD q 0) (hC q), ← join_bytes 8 (D.getD q 0) (hD q), h2]
theorem key_inj (C D : List Nat) (m : Nat) (hl : C.length = m) (hl' : D.length = m) (hC : ∀ q, C.getD q 0 < 18446744073709551616) (hD : ∀ q, D.getD q 0 < 18446744073709551616) : keyS (keyB C m) = keyS (keyB D m) ↔ C = D := by
  constructor
  · intro h
    have h1 := keyS_data (keyB C m)
    rw [h, keyS_data] at h1
    have h2 := keyB_inj C D m hC hD (map8_inj _ _ (keyB_lt D m) (keyB_lt C m) h1).symm
    apply List.ext_getElem (by rw [hl, hl'])
    intro i h3 h4
    have := h2 i (by omega)
    rwa [List.getD_eq_getElem?_getD, List.getD_eq_getElem?_getD, List.getElem?_eq_getElem h3, List.getElem?_eq_getElem h4, Option.getD_some, Option.getD_some] at this
  · intro h; rw [h]

theorem load_row {w : World} {base g k cap : Nat} {O : List Nat} (h : w.ownsRow base 5 1 (.slice (some ⟨g, 0, none⟩) k cap) k (cellsY O)) : (convert 79 9 (.slice (some ⟨g, 0, none⟩) k cap)).run Try.prog w = .ok (.string (keyS O)) w := by
  rw [run_convert_bytes_string w 79 9 5 _ _ _ Try.underlying79 Try.underlying5 Try.underlying9]
  have hl := h.1
  simp only [List.length_map, Nat.mul_one] at hl
  have hload := run_loadCells_list (P := Try.prog) (w := w) ⟨g, 0, none⟩ (cellsY O) (h.cells rfl)
  rw [List.length_map, hl] at hload
  refine run_bytesToString w ⟨g, 0, none⟩ k cap (O.map (fun n : Nat => (n : Int))) ?_
  rw [hload, List.map_map]
  rfl

set_option maxHeartbeats 2000000 in
theorem key_at (p g n m : Nat) (C : List Nat) (w : World) (h : Bs w p g n m C) :
    Calls Try.prog 27 #[at_p p] w fun e w' => e = .returned (.string (keyS (keyB C m))) ∧ Below w.heap.size w w' := by
  obtain ⟨ib, hb, hb0, hb1, hb2⟩ := info_parts Try.infoY
  have hc := h.at_c
  have hm64 : m ≤ 64 := by have := h.len; have := h.small; omega
  have hq : (m : Int) * 64 / 8 = ((8 * m : Nat) : Int) := by omega
  go_enter Try.func27, Try.ntmps27
  go_wp2_with (at_make; refine wpList_make_own _ rfl _ _ 79 rfl w.heap.size 5 ib (.int .u8 0) 1 Try.underlying79 hb hb0 hb1 _ _ _ (8 * m) rfl rfl hq (by rw [hb2]; omega) (by unfold maxLen; omega) (Nat.le_refl _) ?_; intro w2 hown2 hg2; have hB2 : Below w.heap.size w w2 := (Below.refl _ _).grown hg2 (Nat.le_refl _) (fun k e => by cases e); have hc2 := (h.below (Nat.le_refl _) hB2).at_c)
  have hown2' : w2.ownsRow w.heap.size 5 1 (.slice (some ⟨w.heap.size, 0, none⟩) (8 * 0) (8 * m)) (8 * 0) (cellsY (keyB C 0)) := hown2
  obtain ⟨G, hG⟩ : ∃ G, w.heap.size = G := ⟨_, rfl⟩
  have HG : Hid (w.heap.size = G) := hG
  rw [hG] at hown2' hB2 ⊢
  clear hown2 hG hg2
  go_loopw [3, 22] (fun v i wr => ∃ k : Nat, k ≤ m ∧ i = .int .i64 k ∧ v = .slice (some ⟨G, 0, none⟩) (8 * k) (8 * m) ∧ Hid (wr.ownsRow G 5 1 (.slice (some ⟨G, 0, none⟩) (8 * k) (8 * m)) (8 * k) (cellsY (keyB C k))) ∧ Hid (Below G w wr)) (fun _ i _ => m - (intOf i).toNat)
  case atStart => exact ⟨0, Nat.zero_le _, rfl, rfl, hown2', hB2⟩
  case round =>
    obtain ⟨k, hk, rfl, rfl, hown, hB⟩ := hrel
    by_cases hlt : k < m
    · have hbw := h.below (Nat.le_of_eq HG.out) hB.out
      have hx := hbw.cell k hlt
      have hcl := h.clt k
      have HK : Hid (keyB C (k + 1) = keyB C k ++ bytes 8 (C.getD k 0)) := rfl
      generalize C.getD k 0 = X at hx hcl HK
      have hstart : wr.ownsRow G 5 1 (.slice (some ⟨G, 0, none⟩) (8 * k + 0) (8 * m)) (8 * k + 0) (cellsY (keyB C k ++ (bytes 8 X).take 0)) := by
        rw [List.take_zero, List.append_nil]; exact hown.out
      have HST : Hid (wr.ownsRow G 5 1 (.slice (some ⟨G, 0, none⟩) (8 * k + 0) (8 * m)) (8 * k + 0) (cellsY (keyB C k ++ (bytes 8 X).take 0))) := hstart
      clear hstart hbw hown
      go_wp2
      go_loopw [3, 6] (fun v i ws => ∃ s : Nat, s ≤ 8 ∧ i = .int .i64 ((8 * s : Nat) : Int) ∧ v = .slice (some ⟨G, 0, none⟩) (8 * k + s) (8 * m) ∧ Hid (ws.ownsRow G 5 1 (.slice (some ⟨G, 0, none⟩) (8 * k + s) (8 * m)) (8 * k + s) (cellsY (keyB C k ++ (bytes 8 X).take s))) ∧ Hid (Below G w ws)) (fun _ i _ => 64 - (intOf i).toNat)
      case atStart => exact ⟨0, by omega, rfl, rfl, HST.out, hB.out⟩
      case round =>
        obtain ⟨s, hs, rfl, rfl, hown, hBs⟩ := hrel
        by_cases hls : s < 8
        · have HB : Hid ((X : Int) / 2 ^ (8 * s) % 256 = ((X / 2 ^ (8 * s) % 256 : Nat) : Int)) := by
            show _ = _
            simp
          have HT : Hid (keyB C k ++ (bytes 8 X).take (s + 1) = keyB C k ++ (bytes 8 X).take s ++ [X / 2 ^ (8 * s) % 256]) := by
            show _ = _
            rw [bytes_take 8 X s hls, List.append_assoc]
          generalize X / 2 ^ (8 * s) % 256 = d at HB HT
          have hGs : G ≤ wr.heap.size := by have := hBs.out.size; have := HG.out; omega
          go_wp2_with (at_builtin; refine wp_pushY w _ G G rfl (.tmp 30) (.tmp 35) rfl G (8 * k + s) (8 * m) (keyB C k ++ (bytes 8 X).take s) rfl wr.heap.size d _ rfl (hown.out.alloc _) (cell_new1 _ _ _) HB.out (size_new1 hGs _) (by omega) (hBs.out.alloc hGs _) (Nat.le_refl _) ?_; intro w3 hown3 hB3)
          go_roundw
          case rel => exact ⟨s + 1, by omega, by go_num, rfl, (by show World.ownsRow _ _ _ _ _ _ _; rw [HT.out]; exact hown3), hB3⟩
          case measure => simp [intOf]; omega
        · obtain rfl : s = 8 := by omega
          go_wp2
          go_roundw
          case rel =>
            have e8 : (bytes 8 X).take 8 = bytes 8 X := List.take_of_length_le (by rw [bytes_length]; exact Nat.le_refl _)
            have ho := hown.out
            rw [e8, ← HK.out] at ho
            exact ⟨k + 1, by omega, by go_num, rfl, ho, hBs.out⟩
          case measure => simp [intOf]; omega
    · obtain rfl : k = m := by omega
      go_wp2
      rw [load_row hown.out]
      go_wp2
      go_ret
      exact ⟨rfl, by rw [HG.out]; exact hB.out⟩
theorem key_nil (w : World) :
    Calls Try.prog 27 #[.pointer none] w fun e w' => e = .returned (.string ⟨#[]⟩) ∧ w = w' := by
  go_enter Try.func27, Try.ntmps27
  go_wp2
  go_ret
  exact ⟨rfl, rfl⟩
end Go.Proofs.Ytholafecbmhhhaa.Dg
