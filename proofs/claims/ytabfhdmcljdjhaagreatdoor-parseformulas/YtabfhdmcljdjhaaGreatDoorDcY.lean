/- The document's reader: bound. -/
import Derived.Test.YtabfhdmcljdjhaaGreatDoorDcX
import Derived.Deep.RegionHeldLaw
import Derived.Deep.AppendLies
namespace Go.Proofs.YtabfhdmcljdjhaaGreatDoor.Gl
open Go.RowKit
set_option linter.unusedVariables false
set_option linter.unusedSimpArgs false

theorem kinds_name {ws : List Wd} {p : Nat} (h : (Pos.at p).kinds ws 0) : ∃ x, IsN ws p x := by
  obtain ⟨y, hy, hk⟩ := h
  exact ⟨y.text, y, hy, hk, rfl⟩
theorem Ds.low {X : Rx} {w w' : World} {P : Pos} {B : Nat} (h : Ds X w P) (hB : Below B w w') (hb : X.b < B) (hW : X.W.heap.size ≤ B) : Ds X w' P := ⟨h.words, h.new, h.below.trans (hB.mono hW), h.at'.same (hB.block X.b hb)⟩
theorem Rb.low {w w' : World} {B C : Nat} {vs : Array Value} {t : TypeId} (h : Rb w B vs t) (hB : Below C w w') (hb : B < C) : Rb w' B vs t := (hB.block B hb).trans h
theorem Bux.low {b C : Nat} {W0 w w' : World} (h : Bux b W0 w) (hB : Below C w w') (hC : W0.heap.size ≤ C) : Bux b W0 w' := ⟨hB.os.trans h.os, hB.tape.trans h.tape, hB.output.trans h.output, Nat.le_trans h.size hB.size, fun k hk hne => (hB.block k (by omega)).trans (h.block k hk hne)⟩
abbrev quV (q : Int) (x : ByteArray) (g : Nat) : FV := ⟨q, x, 0, none, 0, 0, some ⟨g, 0, none⟩, 1, 1⟩
theorem quants_step (q : Int) (l : List ByteArray) (f : Fm) (i : Nat) (h : i < l.length) : quants q (l.drop i) f = fQ q (l.getD i emp) (quants q (l.drop (i + 1)) f) := by
  rw [drop_cons l i h]
  rfl
theorem getd_mem (l : List ByteArray) (i : Nat) (h : i < l.length) : l.getD i emp ∈ l := by
  rw [List.getD_eq_getElem?_getD, List.getElem?_eq_getElem h]
  exact List.getElem_mem _
theorem step_pushS {ops : Array Oper} {o : Oper} {a : Act} {K : Act → World → Prop} {Q : Exit → Act → World → Prop} {E : Prop} (Wc : World) (base : Nat) (hgd : o.guard = none) (s x : Operand)
    (ho : o.op = .call { callee := .builtin .append, args := #[s, x], argTypes := #[131, 131] }) (v : Value) (k : Nat) (O : List ByteArray) (hs : a.eval s = v) (g : Nat) (d : ByteArray) (hx : a.eval x = .slice (some ⟨g, 0, none⟩) 1 1)
    (hown : Wc.ownsRow base 9 1 v k (cellsS O)) (hcell : Wc.cell? ⟨g, 0, none⟩ = some (.string d)) (hbase : base ≤ Wc.heap.size) (hk : (k + 1) * 16 ≤ 140737488355328)
    (h : ∀ g' c' w', w'.ownsRow base 9 1 (.slice (some ⟨g', 0, none⟩) (k + 1) c') (k + 1) (cellsS (O ++ [d])) → Below base Wc w' → K (a.put o.dst (.slice (some ⟨g', 0, none⟩) (k + 1) c')) w') : if Region.wanted o (yielded ops a.tmps) = true then Oper.wp Tryz.prog o a Wc K Q else E := by
  obtain ⟨i0, hi, hz0, hz1, hz2⟩ := info_parts Tryz.infoStr
  refine step_append_lies Wc hgd s x 131 ho base 9 i0 (.string emp) 1 16 Tryz.underlying131 hi hz0 hz1 hz2 rfl (by decide) v k _ hs hown ⟨g, 0, none⟩ 1 1 [.string d] hx rfl ?_ ?_ (by decide) (by unfold maxLen; omega) (by omega) hbase _ rfl ?_
  · intro j u hj
    match j, hj with
    | 0, hj => simp at hj; subst hj; simpa [Addr.add] using hcell
  · intro u hu; simp at hu; subst hu; rfl
  · intro g' cap w' h1 h2 _ _
    refine h g' cap w' (by simpa [cellsS] using h1) ((Below.refl base Wc).grown h2 hbase ?_)
    intro q hq
    have := hown.lt q hq
    omega
set_option maxRecDepth 100000 in
set_option maxHeartbeats 8000000 in
theorem dqu_step {X : Rx} {N : Nat} {q : Int} (hq : I64 q) (hWd : WdOk X.ws) (F : DUn X (N + 1)) : DQu q X N := by
  intro w p r h hlt0 hP hr
  have hbw := h.lt
  have hWw := h.below.size
  have hR1 := rb_new w zF 26
  have hsm := h.small
  have HQ0 : Hid (Qv X.ws q [] (.at (p + 1)) r) := ⟨r, hr, rfl, fun f hf => hf⟩
  have UC := mkHid F
  obtain ⟨h1, hC1⟩ := h.next hlt0
  obtain ⟨t1, f1⟩ := txcell (h.alloc (.cells zF 26)).at'.2 1 _ rfl
  have h2 := h1.alloc (.cells zF 26)
  have hU2 : Bux X.b w ((w.setCell ⟨X.b, 1, none⟩ (.int .i64 ((p : Int) + 1))).alloc (.cells zF 26)) := hC1.trans (Bux.of (bal _ _))
  have hR2 := rb_new (w.setCell ⟨X.b, 1, none⟩ (.int .i64 ((p : Int) + 1))) zF 26
  have hsw : (w.setCell ⟨X.b, 1, none⟩ (.int .i64 ((p : Int) + 1))).heap.size = w.heap.size := by simp [World.setCell]
  rw [hsw] at hR2
  clear hr F hR1 hC1 h1 hsw
  go_enter Tryz.func68, Tryz.ntmps68
  go_wp2
  clear t1 f1
  generalize hw2 : (w.setCell ⟨X.b, 1, none⟩ (.int .i64 ((p : Int) + 1))).alloc (.cells zF 26) = w2 at h2 hR2 hU2 ⊢
  clear hw2
  have hR2l := (Array.getElem?_eq_some_iff.1 hR2).1
  go_loopw [5] (fun s wr => ∃ (l : List ByteArray) (p1 : Nat) (ro : Option Addr) (cr : Nat), s = .slice ro l.length cr ∧ wr.ownsRow (w.heap.size + 1) 9 1 (.slice ro l.length cr) l.length (cellsS l) ∧ Ds X wr (.at p1) ∧ Hid (p + 1 ≤ p1) ∧ Hid (Qv X.ws q l (.at p1) r) ∧ Bux X.b w wr ∧ Rb wr w.heap.size zF 26 ∧ Hid (l.length ≤ p1) ∧ Hid (∀ x ∈ l, Sz x.size)) (fun _ wr => dsM X.n X.b wr)
  case atStart => exact ⟨[], p + 1, none, 0, rfl, World.ownsRow_nil _ _ _ _, h2, Nat.le_refl _, HQ0.out, hU2, hR2, Nat.zero_le _, fun x hx => by simp at hx⟩
  case round =>
    clear h2 hR2 hU2 HQ0
    obtain ⟨l, p1, ro, cr, rfl, hO, hS, hpp, HQ, hU, hR, hlp, hsz⟩ := hrel
    have hsm1 := hS.small
    have hRl := (Array.getElem?_eq_some_iff.1 hR).1
    by_cases hk : (Pos.at p1).kinds X.ws 0
    · obtain ⟨x, hx⟩ := kinds_name hk
      have hltx := hx.lt
      have hlen := h.words.len
      have hltn : p1 < X.n := by omega
      have hcap := h.words.rd.lecap
      have hcx := h.words.rd.lemax
      have hszx := mkHid (hWd.name hx)
      have HX := mkHid hx
      go_wp2_with (fail)
      refine (dkd_yes (k := 0) hS hk).mono ?_
      rintro e w3 ⟨rfl, hB3⟩
      have h3 := hS.keep hB3
      have hR3 := hR.keep hB3
      have hU3 := hU.trans (Bux.of hB3)
      have hO3 := own_keep hO hB3
      obtain ⟨y, g, off, hy, hao, hg, c0, c1, -⟩ := h3.words.get h3.below hltn
      obtain ⟨T0, -⟩ := txcell h3.at'.2 0 _ rfl
      obtain ⟨T1, -⟩ := txcell h3.at'.2 1 _ rfl
      rw [hao] at T0
      obtain rfl : y.text = x := by obtain ⟨z, hz1, _, hz2⟩ := hx; rw [hy] at hz1; cases hz1; exact hz2
      clear hx hy hk
      have hXb := h3.lt
      have KS : ∀ w', Below w3.heap.size w3 w' → w'.cell? ⟨X.b, 0, none⟩ = some (.slice (some ⟨g, off, none⟩) X.n X.cap) ∧ w'.cell? ⟨X.b, 1, none⟩ = some (.int .i64 (p1 : Nat)) ∧ w'.cell? ⟨g, off + p1 * 5 + 1, none⟩ = some (.string y.text) := fun w' hb => ⟨(hb.cell hXb).trans T0, (hb.cell hXb).trans T1, (hb.cell (p := ⟨g, off + p1 * 5 + 1, none⟩) (by have := h.below.size; have := h3.below.size; show g < _; omega)).trans c1⟩
      have KS2 : ∀ w', Below (w.heap.size + 1) (w3.alloc (.cells #[.string y.text] 9)).drew w' → w'.cell? ⟨X.b, 0, none⟩ = some (.slice (some ⟨g, off, none⟩) X.n X.cap) ∧ w'.cell? ⟨X.b, 1, none⟩ = some (.int .i64 (p1 : Nat)) ∧ w'.cell? ⟨g, off + p1 * 5 + 1, none⟩ = some (.string y.text) := fun w' hb => ⟨(hb.cell (p := ⟨X.b, 0, none⟩) (by show X.b < _; omega)).trans (KS _ (bal w3 _).drew).1, (hb.cell (p := ⟨X.b, 1, none⟩) (by show X.b < _; omega)).trans (KS _ (bal w3 _).drew).2.1, (hb.cell (p := ⟨g, off + p1 * 5 + 1, none⟩) (by have := h.below.size; show g < _; omega)).trans (KS _ (bal w3 _).drew).2.2⟩
      have hal := own_keep hO3 (bal w3 (.cells #[.string y.text] 9))
      have hsl : l.length ≤ 4096 := Nat.le_trans hlp.out hsm1
      have hsz1 : w.heap.size + 1 ≤ w3.heap.size := (Array.getElem?_eq_some_iff.1 hR3).1
      clear T0 T1 c0 c1
      go_wp2
      go_region_held_law (fun w' => w'.cell? ⟨X.b, 0, none⟩ = some (.slice (some ⟨g, off, none⟩) X.n X.cap) ∧ w'.cell? ⟨X.b, 1, none⟩ = some (.int .i64 (p1 : Nat)) ∧ w'.cell? ⟨g, off + p1 * 5 + 1, none⟩ = some (.string y.text)) (first | exact KS _ (Below.refl _ _) | exact KS _ (Below.refl _ _).drew | exact KS _ (bal w3 _) | exact KS _ (bal w3 _).drew | exact KS2 _ hB4' | go_keep)
        (first
          | (refine step_pushS _ (w.heap.size + 1) (by rfl) (.tmp 21) (.tmp 33) (by rfl) _ l.length l (by rfl) w3.heap.size y.text (by rfl) (World.ownsRow.drew hal) (cell_new1 _ _ _) (by simp; omega) (by omega) ?_; intro g' c' w4 hO4 hB4')
          | fail)
      all_goals
        have hWX : X.W.heap.size ≤ w.heap.size + 1 := by omega
        have h4 := (h3.alloc (.cells #[.string y.text] 9)).drew.low hB4' (by omega) hWX
        have hR4 := Rb.low (w := (w3.alloc (.cells #[.string y.text] 9)).drew) (hR3.keep (w' := (w3.alloc (.cells #[.string y.text] 9)).drew) (bal w3 (.cells #[.string y.text] 9)).drew) hB4' (by omega)
        have hU4 := (but_drew (hU3.trans (Bux.of (bal w3 (.cells #[.string y.text] 9))))).low hB4' (by omega)
        obtain ⟨t1, f1⟩ := txcell h4.at'.2 1 _ rfl
        go_wp2_with (fail)
        obtain ⟨h5, hC5⟩ := h4.next hltx
        clear t1 f1
        have hR5 := hR4.but hC5 (by omega)
        have hU5 := hU4.trans hC5
        have hO5 : (w4.setCell ⟨X.b, 1, none⟩ (.int .i64 ((p1 : Int) + 1))).ownsRow (w.heap.size + 1) 9 1 (.slice (some ⟨g', 0, none⟩) (l.length + 1) c') (l.length + 1) (cellsS (l ++ [y.text])) := hO4.kept (row := some X.b) ⟨hC5.os, hC5.tape, hC5.output, hC5.size, fun k hk hne => hC5.block k hk (fun e => hne (by rw [e]))⟩ (.inr fun e => by have := hO4.lt g' rfl; simp only [Value.ownBlock, Option.some.injEq] at e; omega)
        clear hC5
        generalize w4.setCell ⟨X.b, 1, none⟩ (.int .i64 ((p1 : Int) + 1)) = w5 at h5 hR5 hU5 hO5 ⊢
        clear hR4 hU4 hO4 hB4' KS KS2 hal h3 hR3 hU3 hO3
        by_cases hc : IsS X.ws (p1 + 1) kComma
        · have hltc := hc.lt
          refine (dis_yes (x := kComma) h5 hc).mono ?_
          rintro e w6 ⟨rfl, hB6⟩
          have h6 := h5.keep hB6
          have hR6 := hR5.keep hB6
          have hU6 := hU5.trans (Bux.of hB6)
          have hO6 := own_keep hO5 hB6
          obtain ⟨t1, f1⟩ := txcell h6.at'.2 1 _ rfl
          obtain ⟨h7, hC7⟩ := h6.next hltc
          have hcast : (((p1 + 1 : Nat) : Int) + 1) = (p1 : Int) + 1 + 1 := by omega
          rw [hcast] at h7 hC7
          clear hcast
          have hEl : (l ++ [y.text]).length = l.length + 1 := by rw [List.length_append, List.length_singleton]
          go_wp2
          refine ⟨⟨l ++ [y.text], p1 + 1 + 1, some ⟨g', 0, none⟩, c', by rw [hEl], ?_, h7, Nat.le_trans hpp.out (by omega), qv_more HQ.out HX.out hc, hU6.trans hC7, hR6.but hC7 (by omega), ?_, ?_⟩, dsM_lt hS hltx h7 (by show p1 + 1 ≤ p1 + 1 + 1; omega)⟩
          · rw [hEl]
            exact hO6.kept (row := some X.b) ⟨hC7.os, hC7.tape, hC7.output, hC7.size, fun k hk hne => hC7.block k hk (fun e => hne (by rw [e]))⟩ (.inr fun e => by have := hO6.lt g' rfl; simp only [Value.ownBlock, Option.some.injEq] at e; omega)
          · show (l ++ [y.text]).length ≤ p1 + 1 + 1
            rw [hEl]
            have := hlp.out
            omega
          · intro x hx
            rcases List.mem_append.1 hx with h | h
            · exact hsz.out x h
            · obtain rfl := List.mem_singleton.1 h
              exact hszx.out
        · refine (dis_no (x := kComma) h5 hc).mono ?_
          rintro e w6 ⟨rfl, hB6⟩
          have h6 := h5.keep hB6
          have hR6 := hR5.keep hB6
          have hU6 := hU5.trans (Bux.of hB6)
          have hO6 := own_keep hO5 hB6
          obtain ⟨P', hP'⟩ := need_ex X.ws kDot (.at (p1 + 1))
          obtain ⟨r', hr', hpos, his⟩ := qv_last HQ.out HX.out hc hP'
          have HP := mkHid hpos
          have HI := mkHid his
          have hfr : P'.from (N + 1) := hP'.from (by show N + 1 ≤ p1 + 1; have : p + 1 ≤ p1 := hpp; omega)
          have UD := mkHid (fun w5 h5 => UC.out w5 P' r' h5 hfr hr')
          have NC := mkHid hP'
          clear hpos his hP' UC HQ
          go_wp2_with (fail)
          refine (dpast_at (x := kDot) h6 NC.out).mono ?_
          rintro e w7 ⟨rfl, h7, hC7⟩
          have hR7 := hR6.but hC7 (by omega)
          have hU7 := hU6.trans hC7
          have hO7 := hO6.kept (row := some X.b) ⟨hC7.os, hC7.tape, hC7.output, hC7.size, fun k hk hne => hC7.block k hk (fun e => hne (by rw [e]))⟩ (.inr fun e => by have := hO6.lt g' rfl; simp only [Value.ownBlock, Option.some.injEq] at e; omega)
          clear hC7
          go_wp2_with (fail)
          refine (UD.out _ h7).mono ?_
          rintro e w8 ⟨o, xs, m, bo, k1, c1, ao, k2, c2, f0, rfl, hV8, h8, hC8, hf0⟩
          have hR8 := hR7.but hC8 (by omega)
          have hU8 := hU7.trans hC8
          have hO8 := hO7.kept (row := some X.b) ⟨hC8.os, hC8.tape, hC8.output, hC8.size, fun k hk hne => hC8.block k hk (fun e => hne (by rw [e]))⟩ (.inr fun e => by have := hO7.lt g' rfl; simp only [Value.ownBlock, Option.some.injEq] at e; omega)
          have hs7 := (Array.getElem?_eq_some_iff.1 hR7).1
          have hg8 := hO8.lt g' rfl
          have hb8 := h8.lt
          have hX9 := rb_new w8 (FV.mk o xs m bo k1 c1 ao k2 c2).arr 26
          have h9 := h8.alloc (.cells (FV.mk o xs m bo k1 c1 ao k2 c2).arr 26)
          have hR9 := hR8.keep (bal w8 (.cells (FV.mk o xs m bo k1 c1 ao k2 c2).arr 26))
          have hU9 := hU8.trans (Bux.of (bal w8 (.cells (FV.mk o xs m bo k1 c1 ao k2 c2).arr 26)))
          have hO9 := own_keep hO8 (bal w8 (.cells (FV.mk o xs m bo k1 c1 ao k2 c2).arr 26))
          have hV9 : FV.rd (fun k => w.heap.size < k ∧ k ≠ w8.heap.size) (w8.alloc (.cells (FV.mk o xs m bo k1 c1 ao k2 c2).arr 26)) f0 ⟨o, xs, m, bo, k1, c1, ao, k2, c2⟩ := RdFn.keep (Hi.of (bal w8 _)) _ _ _ _ _ _ (RdFn.low (fun k hk (hg : _ ≤ k) => ⟨by omega, by omega⟩) _ _ _ _ _ _ hV8)
          have hR8l := (Array.getElem?_eq_some_iff.1 hR8).1
          have hs9 : (w8.alloc (.cells (FV.mk o xs m bo k1 c1 ao k2 c2).arr 26)).heap.size = w8.heap.size + 1 := World.size_alloc ..
          obtain ⟨L, hL⟩ : ∃ L, L = l ++ [y.text] := ⟨_, rfl⟩
          have HLl : Hid (L.length = l.length + 1) := by rw [hL, List.length_append, List.length_singleton]; rfl
          have HLs : Hid (∀ x ∈ L, Sz x.size) := by
            intro x hx
            rw [hL] at hx
            rcases List.mem_append.1 hx with h | h
            · exact hsz.out x h
            · obtain rfl := List.mem_singleton.1 h
              exact hszx.out
          rw [← hL] at hO9 HI
          clear hL h4 hR6 hU6 hO6 hR7 hU7 hO7 hR8 hU8 hO8 h7 hC8 hV8 h6 h5 hR5 hU5 hO5 hB6 NC UD hsz hszx HX hc
          go_wp2
          generalize hw9 : w8.alloc (.cells (FV.mk o xs m bo k1 c1 ao k2 c2).arr 26) = w9 at hX9 h9 hR9 hU9 hO9 hV9 hs9
          go_loopw [7] (fun s wr => ∃ (k : Nat) (e : FV) (i : Int), k ≤ l.length + 1 ∧ s = .int .i64 i ∧ i = (k : Int) - 1 ∧ FV.rd (fun k => w.heap.size < k ∧ k ≠ w8.heap.size) wr (quants q (L.drop k) f0) e ∧ Rb wr w8.heap.size e.arr 26 ∧ KpB (some w8.heap.size) w9 wr) (fun s _ => (intOf s + 1).toNat)
          case atStart =>
            subst hw9
            exact ⟨l.length + 1, _, _, Nat.le_refl _, rfl, by go_num, by rw [List.drop_of_length_le (by rw [HLl.out]; exact Nat.le_refl _)]; exact hV9, hX9, KpB.refl _ _⟩
          case round =>
            clear hV9 hX9 hw9
            obtain ⟨w10, hw10⟩ : ∃ w10, w10 = wr := ⟨_, rfl⟩
            subst hw10
            obtain ⟨k, e, i, hk, rfl, hi, hE, hX0, hK⟩ := hrel
            have hX : Rb w10 w8.heap.size #[.int .i64 e.o, .string e.x, .int .i64 e.m, .slice e.bo e.n1 e.c1, .slice e.ao e.n e.c] 26 := hX0
            clear hX0
            have hO10 := hO9.kept hK (.inr fun e => by simp only [Value.ownBlock, Option.some.injEq] at e; omega)
            have hS10 := h9.kp hK (fun k hk => by simp only [Option.some.injEq] at hk; omega)
            have hR10 := hR9.kp hK (fun e => by simp only [Option.some.injEq] at e; omega)
            have hU10 := hU9.kp hK (fun k hk => by simp only [Option.some.injEq] at hk; omega)
            have hBl := (Array.getElem?_eq_some_iff.1 hX).1
            by_cases hk0 : 0 < k
            · obtain ⟨j, rfl⟩ : ∃ j, k = j + 1 := ⟨k - 1, by omega⟩
              obtain rfl : i = (j : Int) := by omega
              clear hi
              have hjL : j < L.length := by rw [HLl.out]; omega
              have y0 : w10.cell? ⟨g', j, none⟩ = some (.string (L.getD j emp)) := by
                rw [hO10.cellAt j (by omega), List.getElem?_map, List.getElem?_eq_getElem hjL, List.getD_eq_getElem?_getD, List.getElem?_eq_getElem hjL]
                rfl
              have hszj := mkHid (HLs.out _ (getd_mem L j hjL))
              have HST := mkHid (quants_step q L f0 j hjL)
              clear hjL
              generalize L.getD j emp = x at y0 hszj HST
              obtain ⟨z0, s0⟩ := txcell hX 0 _ rfl
              obtain ⟨z1, s1⟩ := txcell hX 1 _ rfl
              obtain ⟨z2, s2⟩ := txcell hX 2 _ rfl
              obtain ⟨z3, s3⟩ := txcell hX 3 _ rfl
              obtain ⟨z4, s4⟩ := txcell hX 4 _ rfl
              have hj0 : (0 : Int) ≤ (j : Int) := by omega
              have hj1 : (j : Int) < (l.length : Int) + 1 := by omega
              have hX5 := hX.keep (bal w10 (.cells #[.int .i64 e.o, .string e.x, .int .i64 e.m, .slice e.bo e.n1 e.c1, .slice e.ao e.n e.c] 26))
              have y5 : (w10.alloc (.cells #[.int .i64 e.o, .string e.x, .int .i64 e.m, .slice e.bo e.n1 e.c1, .slice e.ao e.n e.c] 26)).cell? ⟨g', j, none⟩ = some (.string x) := ((bal w10 (.cells #[.int .i64 e.o, .string e.x, .int .i64 e.m, .slice e.bo e.n1 e.c1, .slice e.ao e.n e.c] 26)).cell (p := ⟨g', j, none⟩) (by show g' < _; omega)).trans y0
              obtain ⟨u0, v0⟩ := txcell hX5 0 _ rfl
              obtain ⟨u1, v1⟩ := txcell hX5 1 _ rfl
              obtain ⟨u2, v2⟩ := txcell hX5 2 _ rfl
              obtain ⟨u3, v3⟩ := txcell hX5 3 _ rfl
              obtain ⟨u4, v4⟩ := txcell hX5 4 _ rfl
              have hsz5 : (st5 w10 w8.heap.size (.int .i64 q) (.string x) (.int .i64 0) (.slice none 0 0) (.slice (some ⟨w10.heap.size, 0, none⟩) 1 1)).heap.size = w10.heap.size := by simp [World.setCell]
              have hX6 := mkHid ((rb_five hX rfl (.int .i64 q) (.string x) (.int .i64 0) (.slice none 0 0) (.slice (some ⟨w10.heap.size, 0, none⟩) 1 1)).keep (w' := ((st5 w10 w8.heap.size (.int .i64 q) (.string x) (.int .i64 0) (.slice none 0 0) (.slice (some ⟨w10.heap.size, 0, none⟩) 1 1)).alloc (.cells #[.int .i64 e.o, .string e.x, .int .i64 e.m, .slice e.bo e.n1 e.c1, .slice e.ao e.n e.c] 26)).drew) (bal _ (.cells #[.int .i64 e.o, .string e.x, .int .i64 e.m, .slice e.bo e.n1 e.c1, .slice e.ao e.n e.c] 26)).drew)
              have hE6 := mkHid (RdFn.keep (W' := ((st5 w10 w8.heap.size (.int .i64 q) (.string x) (.int .i64 0) (.slice none 0 0) (.slice (some ⟨w10.heap.size, 0, none⟩) 1 1)).alloc (.cells #[.int .i64 e.o, .string e.x, .int .i64 e.m, .slice e.bo e.n1 e.c1, .slice e.ao e.n e.c] 26)).drew) (Hi.of (Below.refl _ _).drew) _ _ _ _ _ _ (mkF1 (t := 26) (RdFn.keep (Hi.st5 (fun k (hk : w.heap.size < k ∧ k ≠ w8.heap.size) => hk.2) w10 (.int .i64 q) (.string x) (.int .i64 0) (.slice none 0 0) (.slice (some ⟨w10.heap.size, 0, none⟩) 1 1)) _ _ _ _ _ _ hE) hsz5 ⟨by omega, by omega⟩ q 0 x ⟨hq, by decide, hszj.out⟩))
              have hK6 := mkHid ((hK.st5 (.int .i64 q) (.string x) (.int .i64 0) (.slice none 0 0) (.slice (some ⟨w10.heap.size, 0, none⟩) 1 1)).trans (KpB.of (bal (st5 w10 w8.heap.size (.int .i64 q) (.string x) (.int .i64 0) (.slice none 0 0) (.slice (some ⟨w10.heap.size, 0, none⟩) 1 1)) (.cells #[.int .i64 e.o, .string e.x, .int .i64 e.m, .slice e.bo e.n1 e.c1, .slice e.ao e.n e.c] 26)).drew))
              clear hE hsz5
              go_wp2
              go_region
              go_wp2
              exact ⟨⟨j, quV q x w10.heap.size, _, by omega, rfl, by go_num, by rw [HST.out]; exact hE6.out, hX6.out, hK6.out⟩, by simp [intOf] <;> omega⟩
            · obtain rfl : k = 0 := by omega
              obtain rfl : i = -1 := by omega
              clear hi
              rw [List.drop_zero] at hE
              have hE0 := mkHid hE
              clear hE
              have hF := mkHid (HI.out f0 hf0)
              obtain ⟨z0, -⟩ := txcell hX 0 _ rfl
              obtain ⟨z1, -⟩ := txcell hX 1 _ rfl
              obtain ⟨z2, -⟩ := txcell hX 2 _ rfl
              obtain ⟨z3, -⟩ := txcell hX 3 _ rfl
              obtain ⟨z4, -⟩ := txcell hX 4 _ rfl
              obtain ⟨r0, g0⟩ := txcell hR10 0 _ rfl
              obtain ⟨r1, g1⟩ := txcell hR10 1 _ rfl
              obtain ⟨r2, g2⟩ := txcell hR10 2 _ rfl
              obtain ⟨r3, g3⟩ := txcell hR10 3 _ rfl
              obtain ⟨r4, g4⟩ := txcell hR10 4 _ rfl
              have hRy := rb_five hR10 rfl (.int .i64 e.o) (.string e.x) (.int .i64 e.m) (.slice e.bo e.n1 e.c1) (.slice e.ao e.n e.c)
              obtain ⟨s0, -⟩ := txcell hRy 0 _ rfl
              obtain ⟨s1, -⟩ := txcell hRy 1 _ rfl
              obtain ⟨s2, -⟩ := txcell hRy 2 _ rfl
              obtain ⟨s3, -⟩ := txcell hRy 3 _ rfl
              obtain ⟨s4, -⟩ := txcell hRy 4 _ rfl
              go_wp2
              exact bodyPost_ret (v := .agg #[.int .i64 e.o, .string e.x, .int .i64 e.m, .slice e.bo e.n1 e.c1, .slice e.ao e.n e.c]) (by simp [results, Tryz.results68, go_sem, s0, s1, s2, s3, s4]) rfl ⟨_, _, _, _, _, _, _, _, _, _, rfl, RdFn.low (fun k _ (hk : w.heap.size < k ∧ k ≠ w8.heap.size) => Nat.le_of_lt hk.1) _ _ _ _ _ _ (RdFn.keep (Hi.st5 (fun k (hk : w.heap.size < k ∧ k ≠ w8.heap.size) => by omega) w10 (.int .i64 e.o) (.string e.x) (.int .i64 e.m) (.slice e.bo e.n1 e.c1) (.slice e.ao e.n e.c)) _ _ _ _ _ _ hE0.out), by rw [HP.out]; exact hS10.st5 (by omega) hWw (.int .i64 e.o) (.string e.x) (.int .i64 e.m) (.slice e.bo e.n1 e.c1) (.slice e.ao e.n e.c), hU10.st5 (Nat.le_refl _) (.int .i64 e.o) (.string e.x) (.int .i64 e.m) (.slice e.bo e.n1 e.c1) (.slice e.ao e.n e.c), hF.out⟩
    · have hk' := hk
      obtain ⟨hrp, hri⟩ := qv_none HQ.out hk
      have HP := mkHid hrp
      have HI := mkHid (hri fTrue)
      clear hrp hri UC HQ hk
      go_wp2_with (fail)
      refine (dkd_no (k := 0) hS hk').mono ?_
      rintro e w3 ⟨rfl, hB3⟩
      have h3 := hS.keep hB3
      have hR3 := hR.keep hB3
      have hU3 := hU.trans (Bux.of hB3)
      go_wp2_with (fail)
      refine (dfail_at h3 71 (by decide)).mono ?_
      rintro e w4 ⟨rfl, h4, hC4⟩
      have hR4 := hR3.but hC4 (by omega)
      have hU4 := hU3.trans hC4
      obtain ⟨r0, g0⟩ := txcell hR4 0 _ rfl
      obtain ⟨r1, g1⟩ := txcell hR4 1 _ rfl
      obtain ⟨r2, g2⟩ := txcell hR4 2 _ rfl
      obtain ⟨r3, g3⟩ := txcell hR4 3 _ rfl
      obtain ⟨r4, g4⟩ := txcell hR4 4 _ rfl
      have hRy := rb_five hR4 rfl (.int .i64 0) (.string emp) (.int .i64 0) (.slice none 0 0) (.slice none 0 0)
      obtain ⟨s0, -⟩ := txcell hRy 0 _ rfl
      obtain ⟨s1, -⟩ := txcell hRy 1 _ rfl
      obtain ⟨s2, -⟩ := txcell hRy 2 _ rfl
      obtain ⟨s3, -⟩ := txcell hRy 3 _ rfl
      obtain ⟨s4, -⟩ := txcell hRy 4 _ rfl
      go_wp2
      exact bodyPost_ret (v := .agg #[.int .i64 0, .string emp, .int .i64 0, .slice none 0 0, .slice none 0 0]) (by simp [results, Tryz.results68, go_sem, s0, s1, s2, s3, s4]) rfl ⟨_, _, _, _, _, _, _, _, _, _, rfl, leafF 0 0 emp ⟨by decide, by decide, sz_emp⟩, by rw [HP.out]; exact h4.st5 (by omega) hWw (.int .i64 0) (.string emp) (.int .i64 0) (.slice none 0 0) (.slice none 0 0), hU4.st5 (Nat.le_refl _) (.int .i64 0) (.string emp) (.int .i64 0) (.slice none 0 0) (.slice none 0 0), HI.out⟩
end Go.Proofs.YtabfhdmcljdjhaaGreatDoor.Gl
