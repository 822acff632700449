/- The walk over a formula's nodes. -/
import Derived.Test.YtabfhdmcljdjhaaGreatDoorNdC
import Derived.Test.YtabfhdmcljdjhaaGreatDoorNdF
namespace Go.Proofs.YtabfhdmcljdjhaaGreatDoor.Gl
open Go.RowKit Go.Shelf
set_option linter.unusedVariables false
attribute [local go_sem] Oper.semAt_some

theorem cells_at {w : World} {b : Nat} {vs : Array Value} {t : TypeId} (h : w.heap[b]? = some (Obj.cells vs t)) (i : Nat) (v : Value) (hv : vs[i]? = some v) : w.cell? ⟨b, i, none⟩ = some v := by
  simp [World.cell?, h, hv]

set_option maxRecDepth 100000 in
set_option maxHeartbeats 8000000 in
theorem walkF_in (Pd : Nd → Prop) (W : World) (l lo N : Nat) (hlo : W.heap.size ≤ lo) (J Jx : List Nd → World → Prop) (hJ : ∀ pre A B, J pre A → Below A.heap.size A B → J pre B) (hY : Rd Pd l lo N J Jx) :
    ∀ f v (n : Nat) d pre w, (∀ x ∈ ndF f d, Pd x) → FmV W f v → Below W.heap.size W w → lo ≤ w.heap.size → J pre w → pre.length + (ndF f d).length ≤ N →
    CallsIn Fence.wide n Tryz.prog 58 #[v, .int .i64 d, .func (.yield l) #[] #[]] w (WalkR lo J Jx pre (ndF f d) w) := by
  refine Fm.ind (fun o x m t a ih v n d pre w hP hv hW hlw hj hN => ?_)
  obtain ⟨c0, c1, c2, c3, c4, rfl, hr⟩ := hv
  rw [RdF] at hr
  obtain ⟨rfl, rfl, rfl, hbd, ⟨bo, ct, rfl, hlt1, hct, hLT⟩, ao, ca, rfl, hlc, hcz, hLA⟩ := hr
  rw [ndF] at hN hP ⊢
  obtain ⟨b1, hb1⟩ : ∃ b, Obj.cells #[.int .i64 o, .string x, .int .i64 m, .slice bo t.length ct, .slice ao a.length ca] 26 = b := ⟨_, rfl⟩
  obtain ⟨b2, hb2⟩ : ∃ b, Obj.cells #[.string x, .int .i64 m, .int .i64 (t.length : Nat), .int .i64 (a.length : Nat)] 105 = b := ⟨_, rfl⟩
  have hB2 : Below w.heap.size w ((w.alloc b1).alloc b2) := ((Below.refl _ _).alloc (Nat.le_refl _) _).alloc (by simp) _
  have hbox : ((w.alloc b1).alloc b2).heap[w.heap.size]? = some b1 := (Below.heap_alloc _ _ _ (by simp)).trans (World.alloc_heap_new w _)
  have hy0 : YieldAt Fence.wide (n - 1) Tryz.prog l #[.agg #[.int .i64 d, .bool false, .int .i64 o, .int .i64 0, .string x, .int .i64 m, .int .i64 (t.length : Nat), .int .i64 (a.length : Nat)]] ((w.alloc b1).alloc b2) fun e W' =>
      (e = .returned (.bool true) ∧ J (pre ++ [headF d (.mk o x m t a)]) W' ∧ Kp lo w W' ∧ W'.heap[w.heap.size]? = some b1) ∨ (e = .returned (.bool false) ∧ Jx (pre ++ [headF d (.mk o x m t a)]) W') := by
    refine YieldAt.mono (hY (n - 1) pre (headF d (.mk o x m t a)) _ (hP _ (List.mem_cons_self ..)) (hJ pre _ _ hj hB2) (by simp at hN; omega)) (fun e W' h => ?_)
    rcases h with ⟨he, hj', hk⟩ | ⟨he, hj'⟩
    · refine .inl ⟨he, hj', (Kp.of hB2 hlw).trans hk, ?_⟩
      subst hb1
      exact hk.same _ _ _ _ (.inl rfl) hbox
    · exact .inr ⟨he, hj'⟩
  obtain ⟨fn, tmps, assign, body, hy, hR⟩ := hy0
  subst hb1 hb2
  clear hbox hB2
  have IH : Hid (∀ f ∈ a, ∀ v (n : Nat) d pre w, (∀ x ∈ ndF f d, Pd x) → FmV W f v → Below W.heap.size W w → lo ≤ w.heap.size → J pre w → pre.length + (ndF f d).length ≤ N →
    CallsIn Fence.wide n Tryz.prog 58 #[v, .int .i64 d, .func (.yield l) #[] #[]] w (WalkR lo J Jx pre (ndF f d) w)) := ih
  have TH : Hid (∀ t v (n : Nat) d pre w, (∀ x ∈ ndT t d, Pd x) → TmV W t v → Below W.heap.size W w → lo ≤ w.heap.size → J pre w → pre.length + (ndT t d).length ≤ N →
    CallsIn Fence.wide n Tryz.prog 74 #[v, .int .i64 d, .func (.yield l) #[] #[]] w (WalkR lo J Jx pre (ndT t d) w)) := walkT_in Pd W l lo N hlo J Jx hJ hY
  have HLA : Hid (RdFL W a ao 0) := hLA
  have HP : Hid (∀ x_1 ∈ headF d (.mk o x m t a) :: (ndTL t (dn d) ++ ndFL a (dn d)), Pd x_1) := hP
  clear hP
  have HLT : Hid (RdTL W t bo 0) := hLT
  generalize hx : headF d (.mk o x m t a) = nd at *
  clear hx ih hLA hLT hY
  have hdd : ∀ k : Nat, (Fence.wide.depth.isSome = true → 1 ≤ k) := fun k h => by cases h
  refine callsIn_of_wp Tryz.func58 rfl trivial ?_ rfl
  simp only [Tryz.ntmps58, List.size_toArray, List.length_cons, List.length_nil, Nat.reduceAdd, Nat.reduceSub, Array.replicate_succ, Array.replicate_zero, List.push_toArray, List.append_toArray, List.nil_append, List.cons_append]
  gi_wp2
  refine ⟨hdd _, ?_⟩
  refine hR.mono ?_
  rintro e W3 (⟨rfl, hj3, hk3, hc3⟩ | ⟨rfl, hx3⟩)
  · clear hR hy
    have hc33 := cells_at hc3 3 _ rfl
    gi_wp2
    gi_loopw [34] (fun i wr => ∃ k : Nat, k ≤ t.length ∧ i = .int .i64 k ∧ J (pre ++ [nd] ++ ndTL (t.take k) (dn d)) wr ∧ Kp lo w wr ∧ wr.heap[w.heap.size]? = some (Obj.cells #[.int .i64 o, .string x, .int .i64 m, .slice bo t.length ct, .slice ao a.length ca] 26)) (fun i _ => t.length - (intOf i).toNat)
    case atStart => exact ⟨0, Nat.zero_le _, rfl, by simpa [ndTL] using hj3, hk3, hc3⟩
    case round =>
      clear hc3 hc33
      obtain ⟨k, hk, rfl, hjr, hkr, hcr⟩ := hrel
      by_cases hlt : k < t.length
      · have hWr : Below W.heap.size W wr := hW.trans (hkr.below.mono hlo)
        obtain ⟨g, of, d0, d1, d2, d3, rfl, hg, q0, q1, q2, q3, hrd⟩ := HLT.out.get k hlt
        rw [Nat.zero_add] at q0 q1 q2 q3
        obtain ⟨⟨o', n', x', a'⟩, hak⟩ : ∃ u, t[k] = u := ⟨_, rfl⟩
        have hrd2 := hrd
        rw [hak, RdT] at hrd2
        obtain ⟨rfl, rfl, rfl, hbd', ao', ca', rfl, -⟩ := hrd2
        have p0 := (hWr.cell (p := ⟨g, of + k * 4, none⟩) hg).trans q0
        have p1 := (hWr.cell (p := ⟨g, of + k * 4 + 1, none⟩) hg).trans q1
        have p2 := (hWr.cell (p := ⟨g, of + k * 4 + 2, none⟩) hg).trans q2
        have p3 := (hWr.cell (p := ⟨g, of + k * 4 + 3, none⟩) hg).trans q3
        have hBa : Below wr.heap.size wr (wr.alloc (.cells #[.int .i64 o', .int .i64 n', .string x', .slice ao' a'.length ca'] 43)) := (Below.refl _ _).alloc (Nat.le_refl _) _
        have hls : lo ≤ wr.heap.size := Nat.le_trans hlw hkr.below.size
        have RC : Hid (CallsIn Fence.wide (n - 1) Tryz.prog 74 #[.agg #[.int .i64 o', .int .i64 n', .string x', .slice ao' a'.length ca'], .int .i64 (wrap64 (d + 1)), .func (.yield l) #[] #[]] (wr.alloc (.cells #[.int .i64 o', .int .i64 n', .string x', .slice ao' a'.length ca'] 43)) (fun e w' =>
            (e = .returned (.bool true) ∧ J (pre ++ [nd] ++ ndTL (t.take (k + 1)) (dn d)) w' ∧ Kp lo w w' ∧ w'.heap[w.heap.size]? = some (Obj.cells #[.int .i64 o, .string x, .int .i64 m, .slice (some ⟨g, of, none⟩) t.length ct, .slice ao a.length ca] 26)) ∨ (e = .returned (.bool false) ∧ ∃ q, q <+: nd :: (ndTL t (dn d) ++ ndFL a (dn d)) ∧ Jx (pre ++ q) w'))) := by
          refine ((TH.out t[k] _ (n - 1) (dn d) (pre ++ [nd] ++ ndTL (t.take k) (dn d)) _ (fun y hy => HP.out y (List.mem_cons_of_mem _ (by rw [ndTL_split hlt (dn d)]; simp [hy]))) ⟨_, _, _, _, rfl, hrd⟩ (hWr.trans (hBa.mono hWr.size)) (by simp; omega) (hJ _ _ _ hjr hBa) ?_).mono ?_)
          · have := congrArg List.length (ndTL_split hlt (dn d))
            simp at this hN ⊢
            omega
          · rintro e w' (⟨he, hj', hk'⟩ | ⟨he, q, hq, hj'⟩)
            · have hkk := (Kp.of hBa hls).trans hk'
              refine .inl ⟨he, ?_, hkr.trans hkk, hkk.same _ _ _ _ (.inl rfl) hcr⟩
              rw [ndTL_take hlt, ← List.append_assoc]
              exact hj'
            · obtain ⟨r, hr⟩ := hq
              refine .inr ⟨he, nd :: (ndTL (t.take k) (dn d) ++ q), ?_, by simpa [List.append_assoc] using hj'⟩
              refine ⟨r ++ ndTL (t.drop (k + 1)) (dn d) ++ ndFL a (dn d), ?_⟩
              rw [ndTL_split hlt (dn d), ← hr]
              simp [List.append_assoc]
        clear IH TH HLA HLT HP q0 q1 q2 q3 hrd hjr hak hcr
        gi_wp2
        refine ⟨trivial, hdd _, ?_⟩
        refine RC.out.mono ?_
        rintro e w5 (⟨rfl, hj5, hk5, hc5⟩ | ⟨rfl, q, hq, hx5⟩)
        · gi_wp2
          go_roundw
          case rel => exact ⟨k + 1, by omega, by go_num, hj5, hk5, hc5⟩
          case measure => simp [intOf]; omega
        · gi_wp2
          go_ret
          exact .inr ⟨rfl, q, hq, hx5⟩
      · obtain rfl : k = t.length := by omega
        rw [List.take_length] at hjr
        have hcr4 := cells_at hcr 4 _ rfl
        clear TH HLT
        gi_wp2
        obtain ⟨wv, hwv⟩ : ∃ wv, wv = wr := ⟨_, rfl⟩
        subst hwv
        gi_loopw [48] (fun i wr => ∃ k : Nat, k ≤ a.length ∧ i = .int .i64 k ∧ J (pre ++ [nd] ++ ndTL t (dn d) ++ ndFL (a.take k) (dn d)) wr ∧ Kp lo w wr) (fun i _ => a.length - (intOf i).toNat)
        case atStart => exact ⟨0, Nat.zero_le _, rfl, by simpa [ndFL] using hjr, hkr⟩
        case round =>
          clear hjr hkr hcr hcr4
          obtain ⟨k, hk, rfl, hjr, hkr⟩ := hrel
          by_cases hlt : k < a.length
          · have hWr : Below W.heap.size W wr := hW.trans (hkr.below.mono hlo)
            obtain ⟨g, of, d0, d1, d2, d3, d4, rfl, hg, q0, q1, q2, q3, q4, hrd⟩ := HLA.out.get k hlt
            rw [Nat.zero_add] at q0 q1 q2 q3 q4
            obtain ⟨⟨o', x', m', t', a'⟩, hak⟩ : ∃ u, a[k] = u := ⟨_, rfl⟩
            have hrd2 := hrd
            rw [hak, RdF] at hrd2
            obtain ⟨rfl, rfl, rfl, hbd', ⟨bo', ct', rfl, -⟩, ao', ca', rfl, -⟩ := hrd2
            have p0 := (hWr.cell (p := ⟨g, of + k * 5, none⟩) hg).trans q0
            have p1 := (hWr.cell (p := ⟨g, of + k * 5 + 1, none⟩) hg).trans q1
            have p2 := (hWr.cell (p := ⟨g, of + k * 5 + 2, none⟩) hg).trans q2
            have p3 := (hWr.cell (p := ⟨g, of + k * 5 + 3, none⟩) hg).trans q3
            have p4 := (hWr.cell (p := ⟨g, of + k * 5 + 4, none⟩) hg).trans q4
            have hBa : Below wr.heap.size wr (wr.alloc (.cells #[.int .i64 o', .string x', .int .i64 m', .slice bo' t'.length ct', .slice ao' a'.length ca'] 26)) := (Below.refl _ _).alloc (Nat.le_refl _) _
            have hls : lo ≤ wr.heap.size := Nat.le_trans hlw hkr.below.size
            have RC : Hid (CallsIn Fence.wide (n - 1) Tryz.prog 58 #[.agg #[.int .i64 o', .string x', .int .i64 m', .slice bo' t'.length ct', .slice ao' a'.length ca'], .int .i64 (wrap64 (d + 1)), .func (.yield l) #[] #[]] (wr.alloc (.cells #[.int .i64 o', .string x', .int .i64 m', .slice bo' t'.length ct', .slice ao' a'.length ca'] 26)) (fun e w' =>
                (e = .returned (.bool true) ∧ J (pre ++ [nd] ++ ndTL t (dn d) ++ ndFL (a.take (k + 1)) (dn d)) w' ∧ Kp lo w w') ∨ (e = .returned (.bool false) ∧ ∃ q, q <+: nd :: (ndTL t (dn d) ++ ndFL a (dn d)) ∧ Jx (pre ++ q) w'))) := by
              refine ((IH.out a[k] (List.getElem_mem hlt) _ (n - 1) (dn d) (pre ++ [nd] ++ ndTL t (dn d) ++ ndFL (a.take k) (dn d)) _ (fun y hy => HP.out y (List.mem_cons_of_mem _ (by rw [ndFL_split hlt (dn d)]; simp [hy]))) ⟨_, _, _, _, _, rfl, hrd⟩ (hWr.trans (hBa.mono hWr.size)) (by simp; omega) (hJ _ _ _ hjr hBa) ?_).mono ?_)
              · have := congrArg List.length (ndFL_split hlt (dn d))
                simp at this hN ⊢
                omega
              · rintro e w' (⟨he, hj', hk'⟩ | ⟨he, q, hq, hj'⟩)
                · refine .inl ⟨he, ?_, hkr.trans ((Kp.of hBa hls).trans hk')⟩
                  rw [ndFL_take hlt, ← List.append_assoc]
                  exact hj'
                · obtain ⟨r, hr⟩ := hq
                  refine .inr ⟨he, nd :: (ndTL t (dn d) ++ (ndFL (a.take k) (dn d) ++ q)), ?_, by simpa [List.append_assoc] using hj'⟩
                  refine ⟨r ++ ndFL (a.drop (k + 1)) (dn d), ?_⟩
                  rw [ndFL_split hlt (dn d), ← hr]
                  simp [List.append_assoc]
            clear IH HLA HP q0 q1 q2 q3 q4 hrd hjr hak
            gi_wp2
            refine ⟨trivial, hdd _, ?_⟩
            refine RC.out.mono ?_
            rintro e w5 (⟨rfl, hj5, hk5⟩ | ⟨rfl, q, hq, hx5⟩)
            · gi_wp2
              go_roundw
              case rel => exact ⟨k + 1, by omega, by go_num, hj5, hk5⟩
              case measure => simp [intOf]; omega
            · gi_wp2
              go_ret
              exact .inr ⟨rfl, q, hq, hx5⟩
          · obtain rfl : k = a.length := by omega
            gi_wp2
            go_ret
            exact .inl ⟨rfl, by simpa [List.append_assoc] using hjr, hkr⟩
  · gi_wp2
    go_ret
    exact .inr ⟨rfl, [nd], ⟨ndTL t (dn d) ++ ndFL a (dn d), by simp⟩, hx3⟩
end Go.Proofs.YtabfhdmcljdjhaaGreatDoor.Gl
/- The closures that walk over the nodes, as contracts. -/
namespace Go.Proofs.YtabfhdmcljdjhaaGreatDoor.Gl
open Go.RowKit Go.Shelf
set_option linter.unusedVariables false
attribute [local go_sem] Oper.semAt_some

/- a box that holds a formula, a term -/
def BoxF (w : World) (b : Nat) (f : Fm) (W : World) : Prop := ∃ c0 c1 c2 c3 c4, w.heap[b]? = some (Obj.cells #[c0, c1, c2, c3, c4] 26) ∧ RdF W f c0 c1 c2 c3 c4
def BoxT (w : World) (b : Nat) (t : Tm) (W : World) : Prop := ∃ c0 c1 c2 c3, w.heap[b]? = some (Obj.cells #[c0, c1, c2, c3] 43) ∧ RdT W t c0 c1 c2 c3
abbrev NdP (Pd : Nd → Prop) := { x : Nd // Pd x }
def Jl {Pd : Nd → Prop} (J : List (NdP Pd) → World → Prop) : List Nd → World → Prop := fun p W => ∃ q : List (NdP Pd), q.map (·.1) = p ∧ J q W
theorem rdJ_of {Pd : Nd → Prop} {n l lo N : Nat} {J Jx : List (NdP Pd) → World → Prop} (hY : ∀ pre (x : NdP Pd) W1, J pre W1 → pre.length < N → YieldAt Fence.wide n Tryz.prog l #[ndV x.1] W1 fun e W' =>
      (e = .returned (.bool true) ∧ J (pre ++ [x]) W' ∧ Kp lo W1 W') ∨ (e = .returned (.bool false) ∧ Jx (pre ++ [x]) W')) (m : Nat) {pre : List Nd} (p : List (NdP Pd)) (x : Nd) (W : World) (hz : Pd x) (hj : J p W) (hp : p.map (·.1) = pre) (hl : pre.length < N) :
    YieldAt Fence.wide m Tryz.prog l #[ndV x] W fun e W' => (e = .returned (.bool true) ∧ Jl J (pre ++ [x]) W' ∧ Kp lo W W') ∨ (e = .returned (.bool false) ∧ Jl Jx (pre ++ [x]) W') := by
  refine YieldAt.mono (yield_any rfl m (hY p ⟨x, hz⟩ W hj (by rw [← hp] at hl; simpa using hl))) (fun e W' h => ?_)
  rcases h with ⟨he, hj', hk⟩ | ⟨he, hj'⟩
  · exact .inl ⟨he, ⟨p ++ [⟨x, hz⟩], by simp [hp], hj'⟩, hk⟩
  · exact .inr ⟨he, ⟨p ++ [⟨x, hz⟩], by simp [hp], hj'⟩⟩
set_option maxRecDepth 100000 in
set_option maxHeartbeats 2000000 in
theorem nodes_stops (Pd : Nd → Prop) (W : World) (n lo Bf : Nat) (f : Fm) (w : World) (hlo : W.heap.size ≤ lo) (hW : Below W.heap.size W w) (hlw : lo ≤ w.heap.size) (hb : BoxF w Bf f W) (hP : ∀ x ∈ ndF f 1, Pd x) :
    SeqStopsK Fence.wide n Tryz.prog 57 #[.pointer (some ⟨Bf, 0, none⟩)] (fun x : NdP Pd => #[ndV x.1]) (Kp lo) (fun ys => ys.map (·.1) = ndF f 1) (fun pre => pre.map (·.1) <+: ndF f 1) (ndF f 1).length w := by
  intro l J Jx W1 hW1 hJ hJx hY h0
  obtain ⟨c0, c1, c2, c3, c4, hbx, hr⟩ := hb
  have hbx1 : W1.heap[Bf]? = some (Obj.cells #[c0, c1, c2, c3, c4] 26) := (hW1.block Bf (Array.getElem?_eq_some_iff.1 hbx).1).trans hbx
  have e0 := cells_at hbx1 0 _ rfl
  have e1 := cells_at hbx1 1 _ rfl
  have e2 := cells_at hbx1 2 _ rfl
  have e3 := cells_at hbx1 3 _ rfl
  have e4 := cells_at hbx1 4 _ rfl
  have RC : Hid (CallsIn Fence.wide (n - 1) Tryz.prog 58 #[.agg #[c0, c1, c2, c3, c4], .int .i64 1, .func (.yield l) #[] #[]] W1 (WalkR lo (Jl J) (Jl Jx) [] (ndF f 1) W1)) :=
    walkF_in Pd W l lo (ndF f 1).length hlo (Jl J) (Jl Jx) (fun pre A B ⟨p, hp, hj⟩ hb => ⟨p, hp, hJ p A B none hj (grown_of hb) (fun r e => by cases e)⟩) (fun m pre x W2 hz ⟨p, hp, hj⟩ hl => rdJ_of hY m p x W2 hz hj hp hl) f _ (n - 1) 1 [] W1 hP ⟨_, _, _, _, _, rfl, hr⟩ (hW.trans (hW1.mono hW.size)) (Nat.le_trans hlw hW1.size) ⟨[], rfl, h0⟩ (by simp)
  clear hY hJ hJx hbx hbx1 hr
  have hdd : ∀ k : Nat, (Fence.wide.depth.isSome = true → 1 ≤ k) := fun k h => by cases h
  refine callsIn_of_wp Tryz.func57 rfl trivial ?_ rfl
  simp only [Tryz.ntmps57, List.size_toArray, List.length_cons, List.length_nil, Nat.reduceAdd, Nat.reduceSub, Array.replicate_succ, Array.replicate_zero, List.push_toArray, List.append_toArray, List.nil_append, List.cons_append]
  gi_wp2
  refine ⟨trivial, hdd _, ?_⟩
  refine RC.out.mono ?_
  rintro e w5 (⟨rfl, hj5, hk5⟩ | ⟨rfl, q, hq, hx5⟩)
  · gi_wp2
    go_end0
    obtain ⟨p, hp, hj⟩ := hj5
    exact ⟨⟨_, rfl⟩, .inl ⟨p, by simpa using hp, hj⟩⟩
  · gi_wp2
    go_end0
    obtain ⟨p, hp, hj⟩ := hx5
    exact ⟨⟨_, rfl⟩, .inr ⟨p, by rw [hp]; simpa using hq, hj⟩⟩
set_option maxRecDepth 100000 in
set_option maxHeartbeats 2000000 in
theorem termNodes_stops (Pd : Nd → Prop) (W : World) (n lo Bf : Nat) (f : Tm) (w : World) (hlo : W.heap.size ≤ lo) (hW : Below W.heap.size W w) (hlw : lo ≤ w.heap.size) (hb : BoxT w Bf f W) (hP : ∀ x ∈ ndT f 1, Pd x) :
    SeqStopsK Fence.wide n Tryz.prog 73 #[.pointer (some ⟨Bf, 0, none⟩)] (fun x : NdP Pd => #[ndV x.1]) (Kp lo) (fun ys => ys.map (·.1) = ndT f 1) (fun pre => pre.map (·.1) <+: ndT f 1) (ndT f 1).length w := by
  intro l J Jx W1 hW1 hJ hJx hY h0
  obtain ⟨c0, c1, c2, c3, hbx, hr⟩ := hb
  have hbx1 : W1.heap[Bf]? = some (Obj.cells #[c0, c1, c2, c3] 43) := (hW1.block Bf (Array.getElem?_eq_some_iff.1 hbx).1).trans hbx
  have e0 := cells_at hbx1 0 _ rfl
  have e1 := cells_at hbx1 1 _ rfl
  have e2 := cells_at hbx1 2 _ rfl
  have e3 := cells_at hbx1 3 _ rfl
  have RC : Hid (CallsIn Fence.wide (n - 1) Tryz.prog 74 #[.agg #[c0, c1, c2, c3], .int .i64 1, .func (.yield l) #[] #[]] W1 (WalkR lo (Jl J) (Jl Jx) [] (ndT f 1) W1)) :=
    walkT_in Pd W l lo (ndT f 1).length hlo (Jl J) (Jl Jx) (fun pre A B ⟨p, hp, hj⟩ hb => ⟨p, hp, hJ p A B none hj (grown_of hb) (fun r e => by cases e)⟩) (fun m pre x W2 hz ⟨p, hp, hj⟩ hl => rdJ_of hY m p x W2 hz hj hp hl) f _ (n - 1) 1 [] W1 hP ⟨_, _, _, _, rfl, hr⟩ (hW.trans (hW1.mono hW.size)) (Nat.le_trans hlw hW1.size) ⟨[], rfl, h0⟩ (by simp)
  clear hY hJ hJx hbx hbx1 hr
  have hdd : ∀ k : Nat, (Fence.wide.depth.isSome = true → 1 ≤ k) := fun k h => by cases h
  refine callsIn_of_wp Tryz.func73 rfl trivial ?_ rfl
  simp only [Tryz.ntmps73, List.size_toArray, List.length_cons, List.length_nil, Nat.reduceAdd, Nat.reduceSub, Array.replicate_succ, Array.replicate_zero, List.push_toArray, List.append_toArray, List.nil_append, List.cons_append]
  gi_wp2
  refine ⟨trivial, hdd _, ?_⟩
  refine RC.out.mono ?_
  rintro e w5 (⟨rfl, hj5, hk5⟩ | ⟨rfl, q, hq, hx5⟩)
  · gi_wp2
    go_end0
    obtain ⟨p, hp, hj⟩ := hj5
    exact ⟨⟨_, rfl⟩, .inl ⟨p, by simpa using hp, hj⟩⟩
  · gi_wp2
    go_end0
    obtain ⟨p, hp, hj⟩ := hx5
    exact ⟨⟨_, rfl⟩, .inr ⟨p, by rw [hp]; simpa using hq, hj⟩⟩
/- every name is short enough -/
theorem szT {W : World} : ∀ t c0 c1 c2 c3 d, RdT W t c0 c1 c2 c3 → ∀ x ∈ ndT t d, Sz x.name.size := by
  refine Tm.ind (fun o n x a ih c0 c1 c2 c3 d h => ?_)
  rw [RdT] at h
  obtain ⟨-, -, -, hb, ao, cap, -, -, -, hL⟩ := h
  have key : ∀ (l : List Tm) j, (∀ t ∈ l, t ∈ a) → RdTL W l ao j → ∀ y ∈ ndTL l (dn d), Sz y.name.size := by
    intro l
    induction l with
    | nil => intro j _ _ y hy; cases hy
    | cons t r ihr =>
      intro j hm hr y hy
      rw [RdTL] at hr
      obtain ⟨⟨g, of, d0, d1, d2, d3, -, -, -, -, -, -, hrd⟩, hrest⟩ := hr
      rw [ndTL] at hy
      rcases List.mem_append.1 hy with hy | hy
      · exact ih t (hm t (List.mem_cons_self ..)) _ _ _ _ _ hrd y hy
      · exact ihr _ (fun u hu => hm u (List.mem_cons_of_mem _ hu)) hrest y hy
  intro y hy
  rw [ndT] at hy
  rcases List.mem_cons.1 hy with rfl | hy
  · exact hb.2.2
  · exact key a 0 (fun _ h => h) hL y hy
theorem szTL {W : World} (ao : Option Addr) : ∀ (l : List Tm) j d, RdTL W l ao j → ∀ y ∈ ndTL l d, Sz y.name.size := by
  intro l
  induction l with
  | nil => intro j d _ y hy; cases hy
  | cons t r ihr =>
    intro j d hr y hy
    rw [RdTL] at hr
    obtain ⟨⟨g, of, d0, d1, d2, d3, -, -, -, -, -, -, hrd⟩, hrest⟩ := hr
    rw [ndTL] at hy
    rcases List.mem_append.1 hy with hy | hy
    · exact szT t _ _ _ _ _ hrd y hy
    · exact ihr _ _ hrest y hy
theorem szF {W : World} : ∀ f c0 c1 c2 c3 c4 d, RdF W f c0 c1 c2 c3 c4 → ∀ x ∈ ndF f d, Sz x.name.size := by
  refine Fm.ind (fun o x m t a ih c0 c1 c2 c3 c4 d h => ?_)
  rw [RdF] at h
  obtain ⟨-, -, -, hb, ⟨bo, ct, -, -, -, hT⟩, ao, cap, -, -, -, hL⟩ := h
  have key : ∀ (l : List Fm) j, (∀ t ∈ l, t ∈ a) → RdFL W l ao j → ∀ y ∈ ndFL l (dn d), Sz y.name.size := by
    intro l
    induction l with
    | nil => intro j _ _ y hy; cases hy
    | cons t r ihr =>
      intro j hm hr y hy
      rw [RdFL] at hr
      obtain ⟨⟨g, of, d0, d1, d2, d3, d4, -, -, -, -, -, -, -, hrd⟩, hrest⟩ := hr
      rw [ndFL] at hy
      rcases List.mem_append.1 hy with hy | hy
      · exact ih t (hm t (List.mem_cons_self ..)) _ _ _ _ _ _ hrd y hy
      · exact ihr _ (fun u hu => hm u (List.mem_cons_of_mem _ hu)) hrest y hy
  intro y hy
  rw [ndF] at hy
  rcases List.mem_cons.1 hy with rfl | hy
  · exact hb.2.2
  · rcases List.mem_append.1 hy with hy | hy
    · exact szTL bo t 0 _ hT y hy
    · exact key a 0 (fun _ h => h) hL y hy
theorem BoxF.sz {w W : World} {b : Nat} {f : Fm} (h : BoxF w b f W) : ∀ x ∈ ndF f 1, Sz x.name.size := by
  obtain ⟨c0, c1, c2, c3, c4, -, hr⟩ := h
  exact szF f _ _ _ _ _ 1 hr
set_option maxHeartbeats 2000000 in
theorem nodes_at (o m : Int) (x : ByteArray) (bo ao : Option Addr) (n1 c1 n2 c2 : Nat) (w : World) :
    Calls Tryz.prog 34 #[.agg #[.int .i64 o, .string x, .int .i64 m, .slice bo n1 c1, .slice ao n2 c2]] w fun e w' => e = .returned (.func (.func 57) #[] #[.pointer (some ⟨w.heap.size, 0, none⟩)]) ∧ w' = w.alloc (.cells #[.int .i64 o, .string x, .int .i64 m, .slice bo n1 c1, .slice ao n2 c2] 26) := by
  go_enter Tryz.func34, Tryz.ntmps34
  go_wp2
  go_ret
  exact ⟨rfl, rfl⟩
set_option maxHeartbeats 2000000 in
theorem termNodes_at (o m : Int) (x : ByteArray) (ao : Option Addr) (n2 c2 : Nat) (w : World) :
    Calls Tryz.prog 46 #[.agg #[.int .i64 o, .int .i64 m, .string x, .slice ao n2 c2]] w fun e w' => e = .returned (.func (.func 73) #[] #[.pointer (some ⟨w.heap.size, 0, none⟩)]) ∧ w' = w.alloc (.cells #[.int .i64 o, .int .i64 m, .string x, .slice ao n2 c2] 43) := by
  go_enter Tryz.func46, Tryz.ntmps46
  go_wp2
  go_ret
  exact ⟨rfl, rfl⟩
end Go.Proofs.YtabfhdmcljdjhaaGreatDoor.Gl
/- wellMade, check, Check. -/
namespace Go.Proofs.YtabfhdmcljdjhaaGreatDoor.Gl
open Go.RowKit
set_option linter.unusedVariables false

theorem fitsT_at (o n : Int) (x : ByteArray) (t a : Nat) (w : World) (hs : Sz x.size) :
    Calls Tryz.prog 88 #[.int .i64 o, .agg #[.string x, .int .i64 n, .int .i64 (t : Nat), .int .i64 (a : Nat)]] w fun e w' => e = .returned (.bool (wT nmB o n x a && decide (t = 0))) ∧ Below w.heap.size w w' := by
  by_cases ho : o < 0 ∨ 5 < o
  · exact fitsTo o n x t a w ho
  · rcases (show o = 0 ∨ o = 1 ∨ o = 2 ∨ o = 3 ∨ o = 4 ∨ o = 5 by omega) with rfl | rfl | rfl | rfl | rfl | rfl
    · exact fitsT0 n x t a w
    · exact fitsT1 n x t a w hs
    · exact fitsT2 n x t a w
    · exact fitsT3 n x t a w
    · exact fitsT4 n x t a w
    · exact fitsT5 n x t a w
theorem fitsF_at (o n : Int) (x : ByteArray) (t a : Nat) (w : World) (hs : Sz x.size) :
    Calls Tryz.prog 89 #[.int .i64 o, .agg #[.string x, .int .i64 n, .int .i64 (t : Nat), .int .i64 (a : Nat)]] w fun e w' => e = .returned (.bool (wF nmB o x n t a)) ∧ Below w.heap.size w w' := by
  by_cases ho : o < 0 ∨ 15 < o
  · exact fitsFo o n x t a w ho
  · rcases (show o = 0 ∨ o = 1 ∨ o = 2 ∨ o = 3 ∨ o = 4 ∨ o = 5 ∨ o = 6 ∨ o = 7 ∨ o = 8 ∨ o = 9 ∨ o = 10 ∨ o = 11 ∨ o = 12 ∨ o = 13 ∨ o = 14 ∨ o = 15 by omega) with rfl | rfl | rfl | rfl | rfl | rfl | rfl | rfl | rfl | rfl | rfl | rfl | rfl | rfl | rfl | rfl
    · exact fitsF0 n x t a w
    · exact fitsF1 n x t a w
    · exact fitsF2 n x t a w
    · exact fitsF3 n x t a w
    · exact fitsF4 n x t a w
    · exact fitsF5 n x t a w
    · exact fitsF6 n x t a w
    · exact fitsF7 n x t a w hs
    · exact fitsF8 n x t a w hs
    · exact fitsF9 n x t a w
    · exact fitsF10 n x t a w
    · exact fitsF11 n x t a w
    · exact fitsF12 n x t a w
    · exact fitsF13 n x t a w
    · exact fitsF14 n x t a w
    · exact fitsF15 n x t a w
set_option maxHeartbeats 2000000 in
theorem wellN_at (x : Nd) (w : World) (hs : Sz x.name.size) :
    Calls Tryz.prog 56 #[.agg #[.int .i64 x.dp, .bool x.isT, .int .i64 x.op, .int .i64 x.top, .string x.name, .int .i64 x.num, .int .i64 (x.terms : Nat), .int .i64 (x.args : Nat)]] w fun e w' => e = .returned (.bool (wellN nmB x)) ∧ Below w.heap.size w w' := by
  obtain ⟨dp, isT, op, top, name, num, terms, args⟩ := x
  have TC : Hid (∀ w, Calls Tryz.prog 88 #[.int .i64 top, .agg #[.string name, .int .i64 num, .int .i64 (terms : Nat), .int .i64 (args : Nat)]] w fun e w' => e = .returned (.bool (wT nmB top num name args && decide (terms = 0))) ∧ Below w.heap.size w w') := fun w => fitsT_at _ _ _ _ _ w hs
  have FC : Hid (∀ w, Calls Tryz.prog 89 #[.int .i64 op, .agg #[.string name, .int .i64 num, .int .i64 (terms : Nat), .int .i64 (args : Nat)]] w fun e w' => e = .returned (.bool (wF nmB op name num terms args)) ∧ Below w.heap.size w w') := fun w => fitsF_at _ _ _ _ _ w hs
  cases isT
  · show Calls Tryz.prog _ _ w fun e w' => e = .returned (.bool (wF nmB op name num terms args)) ∧ Below w.heap.size w w'
    generalize wF nmB op name num terms args = r at *
    dsimp only
    go_enter Tryz.func56, Tryz.ntmps56
    go_wp2_with (go_at_call 89; refine (FC.out _).mono ?_; rintro e w2 ⟨rfl, hB2⟩)
    go_ret
    exact ⟨rfl, ba2 hB2⟩
  · show Calls Tryz.prog _ _ w fun e w' => e = .returned (.bool (wT nmB top num name args && decide (terms = 0))) ∧ Below w.heap.size w w'
    generalize (wT nmB top num name args && decide (terms = 0)) = r at *
    dsimp only
    go_enter Tryz.func56, Tryz.ntmps56
    go_wp2_with (go_at_call 88; refine (TC.out _).mono ?_; rintro e w2 ⟨rfl, hB2⟩)
    go_ret
    exact ⟨rfl, ba2 hB2⟩
end Go.Proofs.YtabfhdmcljdjhaaGreatDoor.Gl
