/- The closures that walk over the nodes, as contracts. -/
import Derived.Test.YtncgmnijgdfenaaDoorNdD
namespace Go.Proofs.YtncgmnijgdfenaaDoor.Gl
open Go.RowKit Go.Shelf
set_option linter.unusedVariables false
attribute [local go_sem] Oper.semAt_some

/- a box that holds a formula, a term -/
def BoxF (w : World) (b : Nat) (f : Fm) (W : World) : Prop := ∃ c0 c1 c2 c3 c4, w.heap[b]? = some (Obj.cells #[c0, c1, c2, c3, c4] 26) ∧ RdF W f c0 c1 c2 c3 c4
def BoxT (w : World) (b : Nat) (t : Tm) (W : World) : Prop := ∃ c0 c1 c2 c3, w.heap[b]? = some (Obj.cells #[c0, c1, c2, c3] 36) ∧ RdT W t c0 c1 c2 c3
abbrev NdP (Pd : Nd → Prop) := { x : Nd // Pd x }
def Jl {Pd : Nd → Prop} (J : List (NdP Pd) → World → Prop) : List Nd → World → Prop := fun p W => ∃ q : List (NdP Pd), q.map (·.1) = p ∧ J q W
theorem rdJ_of {Pd : Nd → Prop} {n l lo N : Nat} {J Jx : List (NdP Pd) → World → Prop} (hY : ∀ pre (x : NdP Pd) W1, J pre W1 → pre.length < N → YieldAt Fence.wide n Tryd.prog l #[ndV x.1] W1 fun e W' =>
      (e = .returned (.bool true) ∧ J (pre ++ [x]) W' ∧ Kp lo W1 W') ∨ (e = .returned (.bool false) ∧ Jx (pre ++ [x]) W')) (m : Nat) {pre : List Nd} (p : List (NdP Pd)) (x : Nd) (W : World) (hz : Pd x) (hj : J p W) (hp : p.map (·.1) = pre) (hl : pre.length < N) :
    YieldAt Fence.wide m Tryd.prog l #[ndV x] W fun e W' => (e = .returned (.bool true) ∧ Jl J (pre ++ [x]) W' ∧ Kp lo W W') ∨ (e = .returned (.bool false) ∧ Jl Jx (pre ++ [x]) W') := by
  refine YieldAt.mono (yield_any rfl m (hY p ⟨x, hz⟩ W hj (by rw [← hp] at hl; simpa using hl))) (fun e W' h => ?_)
  rcases h with ⟨he, hj', hk⟩ | ⟨he, hj'⟩
  · exact .inl ⟨he, ⟨p ++ [⟨x, hz⟩], by simp [hp], hj'⟩, hk⟩
  · exact .inr ⟨he, ⟨p ++ [⟨x, hz⟩], by simp [hp], hj'⟩⟩
set_option maxRecDepth 100000 in
set_option maxHeartbeats 2000000 in
theorem nodes_stops (Pd : Nd → Prop) (W : World) (n lo Bf : Nat) (f : Fm) (w : World) (hlo : W.heap.size ≤ lo) (hW : Below W.heap.size W w) (hlw : lo ≤ w.heap.size) (hb : BoxF w Bf f W) (hP : ∀ x ∈ ndF f 1, Pd x) :
    SeqStopsK Fence.wide n Tryd.prog 36 #[.pointer (some ⟨Bf, 0, none⟩)] (fun x : NdP Pd => #[ndV x.1]) (Kp lo) (fun ys => ys.map (·.1) = ndF f 1) (fun pre => pre.map (·.1) <+: ndF f 1) (ndF f 1).length w := by
  intro l J Jx W1 hW1 hJ hJx hY h0
  obtain ⟨c0, c1, c2, c3, c4, hbx, hr⟩ := hb
  have hbx1 : W1.heap[Bf]? = some (Obj.cells #[c0, c1, c2, c3, c4] 26) := (hW1.block Bf (Array.getElem?_eq_some_iff.1 hbx).1).trans hbx
  have e0 := cells_at hbx1 0 _ rfl
  have e1 := cells_at hbx1 1 _ rfl
  have e2 := cells_at hbx1 2 _ rfl
  have e3 := cells_at hbx1 3 _ rfl
  have e4 := cells_at hbx1 4 _ rfl
  have RC : Hid (CallsIn Fence.wide (n - 1) Tryd.prog 37 #[.agg #[c0, c1, c2, c3, c4], .int .i64 1, .func (.yield l) #[] #[]] W1 (WalkR lo (Jl J) (Jl Jx) [] (ndF f 1) W1)) :=
    walkF_in Pd W l lo (ndF f 1).length hlo (Jl J) (Jl Jx) (fun pre A B ⟨p, hp, hj⟩ hb => ⟨p, hp, hJ p A B none hj (grown_of hb) (fun r e => by cases e)⟩) (fun m pre x W2 hz ⟨p, hp, hj⟩ hl => rdJ_of hY m p x W2 hz hj hp hl) f _ (n - 1) 1 [] W1 hP ⟨_, _, _, _, _, rfl, hr⟩ (hW.trans (hW1.mono hW.size)) (Nat.le_trans hlw hW1.size) ⟨[], rfl, h0⟩ (by simp)
  clear hY hJ hJx hbx hbx1 hr
  have hdd : ∀ k : Nat, (Fence.wide.depth.isSome = true → 1 ≤ k) := fun k h => by cases h
  refine callsIn_of_wp Tryd.func36 rfl trivial ?_ rfl
  simp only [Tryd.ntmps36, List.size_toArray, List.length_cons, List.length_nil, Nat.reduceAdd, Nat.reduceSub, Array.replicate_succ, Array.replicate_zero, List.push_toArray, List.append_toArray, List.nil_append, List.cons_append]
  gi_wp2
  refine ⟨trivial, hdd _, ?_⟩
  refine RC.out.mono ?_
  rintro e w5 (⟨rfl, hj5, hk5⟩ | ⟨rfl, q, hq, hx5⟩)
  · gi_wp2
    go_end0
    obtain ⟨p, hp, hj⟩ := hj5
    exact ⟨⟨_, rfl⟩, .inl ⟨p, by simpa using hp, hj⟩⟩
  · gi_wp2
    go_end0
    obtain ⟨p, hp, hj⟩ := hx5
    exact ⟨⟨_, rfl⟩, .inr ⟨p, by rw [hp]; simpa using hq, hj⟩⟩
set_option maxRecDepth 100000 in
set_option maxHeartbeats 2000000 in
theorem termNodes_stops (Pd : Nd → Prop) (W : World) (n lo Bf : Nat) (f : Tm) (w : World) (hlo : W.heap.size ≤ lo) (hW : Below W.heap.size W w) (hlw : lo ≤ w.heap.size) (hb : BoxT w Bf f W) (hP : ∀ x ∈ ndT f 1, Pd x) :
    SeqStopsK Fence.wide n Tryd.prog 41 #[.pointer (some ⟨Bf, 0, none⟩)] (fun x : NdP Pd => #[ndV x.1]) (Kp lo) (fun ys => ys.map (·.1) = ndT f 1) (fun pre => pre.map (·.1) <+: ndT f 1) (ndT f 1).length w := by
  intro l J Jx W1 hW1 hJ hJx hY h0
  obtain ⟨c0, c1, c2, c3, hbx, hr⟩ := hb
  have hbx1 : W1.heap[Bf]? = some (Obj.cells #[c0, c1, c2, c3] 36) := (hW1.block Bf (Array.getElem?_eq_some_iff.1 hbx).1).trans hbx
  have e0 := cells_at hbx1 0 _ rfl
  have e1 := cells_at hbx1 1 _ rfl
  have e2 := cells_at hbx1 2 _ rfl
  have e3 := cells_at hbx1 3 _ rfl
  have RC : Hid (CallsIn Fence.wide (n - 1) Tryd.prog 42 #[.agg #[c0, c1, c2, c3], .int .i64 1, .func (.yield l) #[] #[]] W1 (WalkR lo (Jl J) (Jl Jx) [] (ndT f 1) W1)) :=
    walkT_in Pd W l lo (ndT f 1).length hlo (Jl J) (Jl Jx) (fun pre A B ⟨p, hp, hj⟩ hb => ⟨p, hp, hJ p A B none hj (grown_of hb) (fun r e => by cases e)⟩) (fun m pre x W2 hz ⟨p, hp, hj⟩ hl => rdJ_of hY m p x W2 hz hj hp hl) f _ (n - 1) 1 [] W1 hP ⟨_, _, _, _, rfl, hr⟩ (hW.trans (hW1.mono hW.size)) (Nat.le_trans hlw hW1.size) ⟨[], rfl, h0⟩ (by simp)
  clear hY hJ hJx hbx hbx1 hr
  have hdd : ∀ k : Nat, (Fence.wide.depth.isSome = true → 1 ≤ k) := fun k h => by cases h
  refine callsIn_of_wp Tryd.func41 rfl trivial ?_ rfl
  simp only [Tryd.ntmps41, List.size_toArray, List.length_cons, List.length_nil, Nat.reduceAdd, Nat.reduceSub, Array.replicate_succ, Array.replicate_zero, List.push_toArray, List.append_toArray, List.nil_append, List.cons_append]
  gi_wp2
  refine ⟨trivial, hdd _, ?_⟩
  refine RC.out.mono ?_
  rintro e w5 (⟨rfl, hj5, hk5⟩ | ⟨rfl, q, hq, hx5⟩)
  · gi_wp2
    go_end0
    obtain ⟨p, hp, hj⟩ := hj5
    exact ⟨⟨_, rfl⟩, .inl ⟨p, by simpa using hp, hj⟩⟩
  · gi_wp2
    go_end0
    obtain ⟨p, hp, hj⟩ := hx5
    exact ⟨⟨_, rfl⟩, .inr ⟨p, by rw [hp]; simpa using hq, hj⟩⟩
/- every name is short enough -/
theorem szT {W : World} : ∀ t c0 c1 c2 c3 d, RdT W t c0 c1 c2 c3 → ∀ x ∈ ndT t d, Sz x.name.size := by
  refine Tm.ind (fun o n x a ih c0 c1 c2 c3 d h => ?_)
  rw [RdT] at h
  obtain ⟨-, -, -, hb, ao, cap, -, -, -, hL⟩ := h
  have key : ∀ (l : List Tm) j, (∀ t ∈ l, t ∈ a) → RdTL W l ao j → ∀ y ∈ ndTL l (dn d), Sz y.name.size := by
    intro l
    induction l with
    | nil => intro j _ _ y hy; cases hy
    | cons t r ihr =>
      intro j hm hr y hy
      rw [RdTL] at hr
      obtain ⟨⟨g, of, d0, d1, d2, d3, -, -, -, -, -, -, hrd⟩, hrest⟩ := hr
      rw [ndTL] at hy
      rcases List.mem_append.1 hy with hy | hy
      · exact ih t (hm t (List.mem_cons_self ..)) _ _ _ _ _ hrd y hy
      · exact ihr _ (fun u hu => hm u (List.mem_cons_of_mem _ hu)) hrest y hy
  intro y hy
  rw [ndT] at hy
  rcases List.mem_cons.1 hy with rfl | hy
  · exact hb.2.2
  · exact key a 0 (fun _ h => h) hL y hy
theorem szTL {W : World} (ao : Option Addr) : ∀ (l : List Tm) j d, RdTL W l ao j → ∀ y ∈ ndTL l d, Sz y.name.size := by
  intro l
  induction l with
  | nil => intro j d _ y hy; cases hy
  | cons t r ihr =>
    intro j d hr y hy
    rw [RdTL] at hr
    obtain ⟨⟨g, of, d0, d1, d2, d3, -, -, -, -, -, -, hrd⟩, hrest⟩ := hr
    rw [ndTL] at hy
    rcases List.mem_append.1 hy with hy | hy
    · exact szT t _ _ _ _ _ hrd y hy
    · exact ihr _ _ hrest y hy
theorem szF {W : World} : ∀ f c0 c1 c2 c3 c4 d, RdF W f c0 c1 c2 c3 c4 → ∀ x ∈ ndF f d, Sz x.name.size := by
  refine Fm.ind (fun o x m t a ih c0 c1 c2 c3 c4 d h => ?_)
  rw [RdF] at h
  obtain ⟨-, -, -, hb, ⟨bo, ct, -, -, -, hT⟩, ao, cap, -, -, -, hL⟩ := h
  have key : ∀ (l : List Fm) j, (∀ t ∈ l, t ∈ a) → RdFL W l ao j → ∀ y ∈ ndFL l (dn d), Sz y.name.size := by
    intro l
    induction l with
    | nil => intro j _ _ y hy; cases hy
    | cons t r ihr =>
      intro j hm hr y hy
      rw [RdFL] at hr
      obtain ⟨⟨g, of, d0, d1, d2, d3, d4, -, -, -, -, -, -, -, hrd⟩, hrest⟩ := hr
      rw [ndFL] at hy
      rcases List.mem_append.1 hy with hy | hy
      · exact ih t (hm t (List.mem_cons_self ..)) _ _ _ _ _ _ hrd y hy
      · exact ihr _ (fun u hu => hm u (List.mem_cons_of_mem _ hu)) hrest y hy
  intro y hy
  rw [ndF] at hy
  rcases List.mem_cons.1 hy with rfl | hy
  · exact hb.2.2
  · rcases List.mem_append.1 hy with hy | hy
    · exact szTL bo t 0 _ hT y hy
    · exact key a 0 (fun _ h => h) hL y hy
theorem BoxF.sz {w W : World} {b : Nat} {f : Fm} (h : BoxF w b f W) : ∀ x ∈ ndF f 1, Sz x.name.size := by
  obtain ⟨c0, c1, c2, c3, c4, -, hr⟩ := h
  exact szF f _ _ _ _ _ 1 hr
set_option maxHeartbeats 2000000 in
theorem nodes_at (o m : Int) (x : ByteArray) (bo ao : Option Addr) (n1 c1 n2 c2 : Nat) (w : World) :
    Calls Tryd.prog 24 #[.agg #[.int .i64 o, .string x, .int .i64 m, .slice bo n1 c1, .slice ao n2 c2]] w fun e w' => e = .returned (.func (.func 36) #[] #[.pointer (some ⟨w.heap.size, 0, none⟩)]) ∧ w' = w.alloc (.cells #[.int .i64 o, .string x, .int .i64 m, .slice bo n1 c1, .slice ao n2 c2] 26) := by
  go_enter Tryd.func24, Tryd.ntmps24
  go_wp2
  go_ret
  exact ⟨rfl, rfl⟩
set_option maxHeartbeats 2000000 in
theorem termNodes_at (o m : Int) (x : ByteArray) (ao : Option Addr) (n2 c2 : Nat) (w : World) :
    Calls Tryd.prog 29 #[.agg #[.int .i64 o, .int .i64 m, .string x, .slice ao n2 c2]] w fun e w' => e = .returned (.func (.func 41) #[] #[.pointer (some ⟨w.heap.size, 0, none⟩)]) ∧ w' = w.alloc (.cells #[.int .i64 o, .int .i64 m, .string x, .slice ao n2 c2] 36) := by
  go_enter Tryd.func29, Tryd.ntmps29
  go_wp2
  go_ret
  exact ⟨rfl, rfl⟩
end Go.Proofs.YtncgmnijgdfenaaDoor.Gl
