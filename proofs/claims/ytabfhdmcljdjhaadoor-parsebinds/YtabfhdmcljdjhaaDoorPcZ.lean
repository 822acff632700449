/- Operations one by one, by what they leave. -/
import Derived.Test.YtabfhdmcljdjhaaDoorPcX
namespace Go.Proofs.YtabfhdmcljdjhaaDoor.Gl
open Go.RowKit
set_option linter.unusedVariables false
set_option linter.unusedSimpArgs false

theorem eval_tmp {a : Act} {t : Nat} {v : Value} (h : a.tmps[t]? = some v) : a.eval (.tmp t) = v := by
  show a.tmps.getD t undef = v
  rw [Array.getD_eq_getD_getElem?, h]
  rfl
set_option maxHeartbeats 1000000 in
theorem st_load {o : Oper} {a : Act} {w : World} {t X : Nat} {ty : TypeId} {c0 c2 : Int} {c1 : ByteArray} {o3 o4 : Option Addr} {n3 n4 k3 k4 : Nat} {K : Act → World → Prop} {Q : Exit → Act → World → Prop} (ho : o.op = .load 27 (.tmp t)) (ht : a.tmps[t]? = some (.pointer (some ⟨X, 0, none⟩)))
    (hR : Rb w X #[.int .i64 c0, .string c1, .int .i64 c2, .slice o3 n3 k3, .slice o4 n4 k4] ty) (hK : K (a.put o.dst (.agg #[.int .i64 c0, .string c1, .int .i64 c2, .slice o3 n3 k3, .slice o4 n4 k4])) w) : o.wp Tryd.prog a w K Q := by
  have he := eval_tmp ht
  obtain ⟨x0, -⟩ := txcell hR 0 _ rfl
  obtain ⟨x1, -⟩ := txcell hR 1 _ rfl
  obtain ⟨x2, -⟩ := txcell hR 2 _ rfl
  obtain ⟨x3, -⟩ := txcell hR 3 _ rfl
  obtain ⟨x4, -⟩ := txcell hR 4 _ rfl
  obtain ⟨d, op, ty', pos, af, gd⟩ := o
  simp only at ho
  subst ho
  unfold Oper.wp
  simp only [execOp, he]
  go_simp
  exact hK
set_option maxHeartbeats 1000000 in
theorem st_bs1 {o : Oper} {a : Act} {w : World} {t : Nat} {x : C5} {K : Act → World → Prop} {Q : Exit → Act → World → Prop} (ho : o.op = .buildSlice 25 1 #[(0, .tmp t)]) (ht : a.tmps[t]? = some (.agg #[.int .i64 x.o, .string x.xs, .int .i64 x.m, .slice x.bo x.n1 x.c1, .slice x.ao x.n x.c]))
    (hK : K (a.put o.dst (.slice (some ⟨w.heap.size, 0, none⟩) 1 1)) (w.alloc (.cells ([x].flatMap C5.cells).toArray 27))) : o.wp Tryd.prog a w K Q := by
  have he := eval_tmp ht
  obtain ⟨x0, x1, x2, x3, x4, x5, x6, x7, x8⟩ := x
  have hK' : K (a.put o.dst (.slice (some ⟨w.heap.size, 0, none⟩) 1 1)) (w.alloc (.cells #[.int .i64 x0, .string x1, .int .i64 x2, .slice x3 x4 x5, .slice x6 x7 x8] 27)) := hK
  clear hK
  obtain ⟨d, op, ty', pos, af, gd⟩ := o
  simp only at ho
  subst ho
  unfold Oper.wp
  simp only [execOp, List.map_toArray, List.map_cons, List.map_nil, he]
  go_simp
  exact hK'
set_option maxHeartbeats 1000000 in
theorem st_bs2 {o : Oper} {a : Act} {w : World} {t u : Nat} {x y : C5} {K : Act → World → Prop} {Q : Exit → Act → World → Prop} (ho : o.op = .buildSlice 25 2 #[(0, .tmp t), (1, .tmp u)]) (ht : a.tmps[t]? = some (.agg #[.int .i64 x.o, .string x.xs, .int .i64 x.m, .slice x.bo x.n1 x.c1, .slice x.ao x.n x.c])) (hu : a.tmps[u]? = some (.agg #[.int .i64 y.o, .string y.xs, .int .i64 y.m, .slice y.bo y.n1 y.c1, .slice y.ao y.n y.c]))
    (hK : K (a.put o.dst (.slice (some ⟨w.heap.size, 0, none⟩) 2 2)) (w.alloc (.cells ([x, y].flatMap C5.cells).toArray 27))) : o.wp Tryd.prog a w K Q := by
  have he := eval_tmp ht
  have hf := eval_tmp hu
  obtain ⟨x0, x1, x2, x3, x4, x5, x6, x7, x8⟩ := x
  obtain ⟨y0, y1, y2, y3, y4, y5, y6, y7, y8⟩ := y
  have hK' : K (a.put o.dst (.slice (some ⟨w.heap.size, 0, none⟩) 2 2)) (w.alloc (.cells #[.int .i64 x0, .string x1, .int .i64 x2, .slice x3 x4 x5, .slice x6 x7 x8, .int .i64 y0, .string y1, .int .i64 y2, .slice y3 y4 y5, .slice y6 y7 y8] 27)) := hK
  clear hK
  obtain ⟨d, op, ty', pos, af, gd⟩ := o
  simp only at ho
  subst ho
  unfold Oper.wp
  simp only [execOp, List.map_toArray, List.map_cons, List.map_nil, he, hf]
  go_simp
  exact hK'
set_option maxHeartbeats 1000000 in
theorem st_join {o : Oper} {a : Act} {w : World} {t : Nat} {op : Int} {ao : Option Addr} {n c : Nat} {K : Act → World → Prop} {Q : Exit → Act → World → Prop} {tys : Array TypeId} (ho : o.op = .call ⟨.value (.func 8), #[.const (.int .i64 op), .tmp t], tys⟩) (ht : a.tmps[t]? = some (.slice ao n c))
    (hK : ∀ w', Below w.heap.size w w' → K (a.put o.dst (.agg #[.int .i64 op, .string emp, .int .i64 0, .slice none 0 0, .slice ao n c])) w') : o.wp Tryd.prog a w K Q := by
  have he := eval_tmp ht
  obtain ⟨d, op', ty', pos, af, gd⟩ := o
  simp only at ho
  subst ho
  unfold Oper.wp
  simp only [execOp, he]
  go_simp
  refine (joined_at op ao n c w).mono ?_
  rintro e w' ⟨rfl, hB⟩
  exact hK w' hB
set_option maxHeartbeats 2000000 in
theorem st_bs7 {o : Oper} {a : Act} {w : World} {t0 t1 t2 t3 t4 t5 t6 : Nat} {x0 x1 x2 x3 x4 x5 x6 : C5} {K : Act → World → Prop} {Q : Exit → Act → World → Prop} (ho : o.op = .buildSlice 25 7 #[(0, .tmp t0), (1, .tmp t1), (2, .tmp t2), (3, .tmp t3), (4, .tmp t4), (5, .tmp t5), (6, .tmp t6)]) (h0 : a.tmps[t0]? = some (.agg #[.int .i64 x0.o, .string x0.xs, .int .i64 x0.m, .slice x0.bo x0.n1 x0.c1, .slice x0.ao x0.n x0.c])) (h1 : a.tmps[t1]? = some (.agg #[.int .i64 x1.o, .string x1.xs, .int .i64 x1.m, .slice x1.bo x1.n1 x1.c1, .slice x1.ao x1.n x1.c])) (h2 : a.tmps[t2]? = some (.agg #[.int .i64 x2.o, .string x2.xs, .int .i64 x2.m, .slice x2.bo x2.n1 x2.c1, .slice x2.ao x2.n x2.c])) (h3 : a.tmps[t3]? = some (.agg #[.int .i64 x3.o, .string x3.xs, .int .i64 x3.m, .slice x3.bo x3.n1 x3.c1, .slice x3.ao x3.n x3.c])) (h4 : a.tmps[t4]? = some (.agg #[.int .i64 x4.o, .string x4.xs, .int .i64 x4.m, .slice x4.bo x4.n1 x4.c1, .slice x4.ao x4.n x4.c])) (h5 : a.tmps[t5]? = some (.agg #[.int .i64 x5.o, .string x5.xs, .int .i64 x5.m, .slice x5.bo x5.n1 x5.c1, .slice x5.ao x5.n x5.c])) (h6 : a.tmps[t6]? = some (.agg #[.int .i64 x6.o, .string x6.xs, .int .i64 x6.m, .slice x6.bo x6.n1 x6.c1, .slice x6.ao x6.n x6.c]))
    (hK : K (a.put o.dst (.slice (some ⟨w.heap.size, 0, none⟩) 7 7)) (w.alloc (.cells ([x0, x1, x2, x3, x4, x5, x6].flatMap C5.cells).toArray 27))) : o.wp Tryd.prog a w K Q := by
  have p0 := eval_tmp h0
  have p1 := eval_tmp h1
  have p2 := eval_tmp h2
  have p3 := eval_tmp h3
  have p4 := eval_tmp h4
  have p5 := eval_tmp h5
  have p6 := eval_tmp h6
  obtain ⟨a0, b0, c0, d0, e0, f0, g0, k0, m0⟩ := x0
  obtain ⟨a1, b1, c1, d1, e1, f1, g1, k1, m1⟩ := x1
  obtain ⟨a2, b2, c2, d2, e2, f2, g2, k2, m2⟩ := x2
  obtain ⟨a3, b3, c3, d3, e3, f3, g3, k3, m3⟩ := x3
  obtain ⟨a4, b4, c4, d4, e4, f4, g4, k4, m4⟩ := x4
  obtain ⟨a5, b5, c5, d5, e5, f5, g5, k5, m5⟩ := x5
  obtain ⟨a6, b6, c6, d6, e6, f6, g6, k6, m6⟩ := x6
  have hK' : K (a.put o.dst (.slice (some ⟨w.heap.size, 0, none⟩) 7 7)) (w.alloc (.cells #[.int .i64 a0, .string b0, .int .i64 c0, .slice d0 e0 f0, .slice g0 k0 m0, .int .i64 a1, .string b1, .int .i64 c1, .slice d1 e1 f1, .slice g1 k1 m1, .int .i64 a2, .string b2, .int .i64 c2, .slice d2 e2 f2, .slice g2 k2 m2, .int .i64 a3, .string b3, .int .i64 c3, .slice d3 e3 f3, .slice g3 k3 m3, .int .i64 a4, .string b4, .int .i64 c4, .slice d4 e4 f4, .slice g4 k4 m4, .int .i64 a5, .string b5, .int .i64 c5, .slice d5 e5 f5, .slice g5 k5 m5, .int .i64 a6, .string b6, .int .i64 c6, .slice d6 e6 f6, .slice g6 k6 m6] 27)) := hK
  clear hK
  obtain ⟨d, op, ty', pos, af, gd⟩ := o
  simp only at ho
  subst ho
  unfold Oper.wp
  simp only [execOp, List.map_toArray, List.map_cons, List.map_nil, p0, p1, p2, p3, p4, p5, p6]
  go_simp
  exact hK'
set_option maxHeartbeats 1000000 in
theorem st_build {o : Oper} {a : Act} {w : World} {t : Nat} {op : Int} {nm : ByteArray} {ao : Option Addr} {n c : Nat} {K : Act → World → Prop} {Q : Exit → Act → World → Prop} (ho : o.op = .build 27 #[(0, .const (.int .i64 op)), (1, .const (.string nm)), (4, .tmp t)]) (ht : a.tmps[t]? = some (.slice ao n c))
    (hK : K (a.put o.dst (.agg #[.int .i64 op, .string nm, .int .i64 0, .slice none 0 0, .slice ao n c])) w) : o.wp Tryd.prog a w K Q := by
  have he := eval_tmp ht
  obtain ⟨d, op', ty', pos, af, gd⟩ := o
  simp only at ho
  subst ho
  have e1 : a.eval (.const (.int .i64 op)) = .int .i64 op := rfl
  have e2 : a.eval (.const (.string nm)) = .string nm := rfl
  unfold Oper.wp
  simp only [execOp, List.map_toArray, List.map_cons, List.map_nil, he, e1, e2]
  go_simp
  exact hK
set_option maxHeartbeats 1000000 in
theorem st_assign {o : Oper} {a : Act} {w : World} {t : Nat} {v : Value} {K : Act → World → Prop} {Q : Exit → Act → World → Prop} (ho : o.op = .assign (.tmp t)) (ht : a.tmps[t]? = some v)
    (hK : K (a.put o.dst v) w) : o.wp Tryd.prog a w K Q := by
  have he := eval_tmp ht
  obtain ⟨d, op', ty', pos, af, gd⟩ := o
  simp only at ho
  subst ho
  unfold Oper.wp
  simp only [execOp, he]
  go_simp
  exact hK
/- what a slot holds -/
inductive Kd where
  | lit (F : Fm) (v : Value)
  | fm (F : Fm)
  | sl (l : List Fm)
def Kd.ok (v : Value) (w : World) : Kd → Prop
  | .lit F u => v = u ∧ FmE F v w
  | .fm F => FmE F v w
  | .sl l => SlE l v w
theorem Kd.keep {K : Kd} {v : Value} {w w' : World} (h : K.ok v w) (hB : Below w.heap.size w w') : K.ok v w' := by
  cases K with
  | lit F u => exact ⟨h.1, h.2.keep hB⟩
  | fm F => exact FmE.keep h hB
  | sl l => exact SlE.keep h hB
theorem Kd.fmE {K : Kd} {F : Fm} {v : Value} {w : World} (h : K.ok v w) (hk : (∃ u, K = .lit F u) ∨ K = .fm F) : FmE F v w := by
  rcases hk with ⟨u, rfl⟩ | rfl
  · exact h.2
  · exact h
def GK (tb : List (Nat × Kd)) (d : Nat) (v : Value) (w : World) : Prop := ∀ K, tb.lookup d = some K → K.ok v w
theorem gk_keep (tb : List (Nat × Kd)) (d : Nat) (v : Value) (w w' : World) (h : GK tb d v w) (hB : Below w.heap.size w w') : GK tb d v w' := fun K hK => Kd.keep (h K hK) hB
theorem gk_of {tb : List (Nat × Kd)} {d : Nat} {v : Value} {w : World} {K : Kd} (hk : tb.lookup d = some K) (h : K.ok v w) : GK tb d v w := fun K' e => by rw [hk] at e; cases e; exact h
end Go.Proofs.YtabfhdmcljdjhaaDoor.Gl
