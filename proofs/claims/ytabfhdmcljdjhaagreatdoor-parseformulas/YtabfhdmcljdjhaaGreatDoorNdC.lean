/- The nodes of a tree, each ahead of its parts: plain mathematics. -/
import Derived.Test.YtabfhdmcljdjhaaGreatDoorPaA
import Derived.Test.YtabfhdmcljdjhaaGreatDoorTrB
import Derived.RangeFuncNested
import Derived.RangeFuncBound
import Derived.RangeFuncCalls
import Derived.RangeFuncLeaves
import Derived.Shelf.Abstract
import Derived.Shelf.RegionOpen
import Derived.WalkKit
import Derived.OwnWalkIn
import Derived.TacticsInMore
import Derived.LoopNIn
import Derived.LoopIn
namespace Go.Proofs.YtabfhdmcljdjhaaGreatDoor.Gl
set_option linter.unusedVariables false

structure Nd where
  dp : Int
  isT : Bool
  op : Int
  top : Int
  name : ByteArray
  num : Int
  terms : Nat
  args : Nat
/- one deeper -/
def dn (d : Int) : Int := RowKit.wrap64 (d + 1)
theorem dn_nat (k : Nat) (h : k ≤ 1000) : dn (k : Int) = ((k + 1 : Nat) : Int) := by
  unfold dn RowKit.wrap64
  omega
def headT (d : Int) : Tm → Nd | .mk o n x a => ⟨d, true, 0, o, x, n, 0, a.length⟩
def headF (d : Int) : Fm → Nd | .mk o x m t a => ⟨d, false, o, 0, x, m, t.length, a.length⟩
mutual
def ndT : Tm → Int → List Nd | .mk o n x a, d => headT d (.mk o n x a) :: ndTL a (dn d)
def ndTL : List Tm → Int → List Nd | [], _ => [] | t :: r, d => ndT t d ++ ndTL r d
end
mutual
def ndF : Fm → Int → List Nd | .mk o x m t a, d => headF d (.mk o x m t a) :: (ndTL t (dn d) ++ ndFL a (dn d))
def ndFL : List Fm → Int → List Nd | [], _ => [] | f :: r, d => ndF f d ++ ndFL r d
end
theorem ndTL_append (l r : List Tm) (d : Int) : ndTL (l ++ r) d = ndTL l d ++ ndTL r d := by
  induction l with
  | nil => simp [ndTL]
  | cons t l ih => simp [ndTL, ih]
theorem ndFL_append (l r : List Fm) (d : Int) : ndFL (l ++ r) d = ndFL l d ++ ndFL r d := by
  induction l with
  | nil => simp [ndFL]
  | cons t l ih => simp [ndFL, ih]
theorem ndTL_take {a : List Tm} {k : Nat} (h : k < a.length) (d : Int) : ndTL (a.take (k + 1)) d = ndTL (a.take k) d ++ ndT a[k] d := by
  rw [List.take_succ_eq_append_getElem h, ndTL_append]
  simp [ndTL]
theorem ndFL_take {a : List Fm} {k : Nat} (h : k < a.length) (d : Int) : ndFL (a.take (k + 1)) d = ndFL (a.take k) d ++ ndF a[k] d := by
  rw [List.take_succ_eq_append_getElem h, ndFL_append]
  simp [ndFL]
theorem ndTL_split {a : List Tm} {k : Nat} (h : k < a.length) (d : Int) : ndTL a d = ndTL (a.take k) d ++ ndT a[k] d ++ ndTL (a.drop (k + 1)) d := by
  rw [← ndTL_take h, ← ndTL_append, List.take_append_drop]
theorem ndFL_split {a : List Fm} {k : Nat} (h : k < a.length) (d : Int) : ndFL a d = ndFL (a.take k) d ++ ndF a[k] d ++ ndFL (a.drop (k + 1)) d := by
  rw [← ndFL_take h, ← ndFL_append, List.take_append_drop]
/- how many -/
theorem ndTL_len {a : List Tm} (ih : ∀ t ∈ a, ∀ d, (ndT t d).length = t.size) (d : Int) : (ndTL a d).length = Tm.sizeL a := by
  induction a with
  | nil => rfl
  | cons t r ihr =>
    rw [ndTL, Tm.sizeL, List.length_append, ih t (List.mem_cons_self ..), ihr (fun u hu => ih u (List.mem_cons_of_mem _ hu))]
theorem ndT_len : ∀ t d, (ndT t d).length = Tm.size t := by
  refine Tm.ind (fun o n x a ih d => ?_)
  rw [ndT, Tm.size, List.length_cons, ndTL_len ih]
theorem ndFL_len {a : List Fm} (ih : ∀ t ∈ a, ∀ d, (ndF t d).length = t.size) (d : Int) : (ndFL a d).length = Fm.sizeL a := by
  induction a with
  | nil => rfl
  | cons t r ihr =>
    rw [ndFL, Fm.sizeL, List.length_append, ih t (List.mem_cons_self ..), ihr (fun u hu => ih u (List.mem_cons_of_mem _ hu))]
theorem ndF_len : ∀ f d, (ndF f d).length = Fm.size f := by
  refine Fm.ind (fun o x m t a ih d => ?_)
  rw [ndF, Fm.size, List.length_cons, List.length_append, ndFL_len ih, ndTL_len (fun u _ => ndT_len u)]
/- the meter over the nodes -/
def wellN (nm : ByteArray → Bool) (x : Nd) : Bool := if x.isT = true then wT nm x.top x.num x.name x.args && decide (x.terms = 0) else wF nm x.op x.name x.num x.terms x.args
def stp (nm : ByteArray → Bool) (s : St) (x : Nd) : St := if s.e = 0 then s.node x.dp.toNat (wellN nm x) else s
theorem stp_err {nm : ByteArray → Bool} {s : St} (h : s.e ≠ 0) (l : List Nd) : l.foldl (stp nm) s = s := by
  induction l with
  | nil => rfl
  | cons x r ih => rw [List.foldl_cons, stp, if_neg h, ih]
theorem node_deep {dp : Nat} {g : Bool} {s : St} (h : (s.node dp g).e = 0) : dp ≤ 40 ∧ s.n + 1 ≤ 500 ∧ g = true := by
  unfold St.node at h
  simp only at h
  split at h
  · omega
  · split at h
    · omega
    · split at h
      · exact ⟨by omega, by omega, by assumption⟩
      · omega
theorem fold_TL {nm : ByteArray → Bool} {a : List Tm} (ih : ∀ t ∈ a, ∀ (dp : Nat) (s : St), s.e = 0 → dp ≤ 41 → (ndT t dp).foldl (stp nm) s = meterT nm t dp s) (dp : Nat) (hd : dp ≤ 41) : ∀ s : St, (ndTL a dp).foldl (stp nm) s = meterTL nm a dp s := by
  induction a with
  | nil => intro s; rw [ndTL, meterTL]; rfl
  | cons t r ihr =>
    intro s
    rw [ndTL, meterTL, List.foldl_append]
    by_cases h : s.e = 0
    · rw [if_pos h, ih t (List.mem_cons_self ..) dp s h hd, ihr (fun u hu => ih u (List.mem_cons_of_mem _ hu))]
    · rw [if_neg h, stp_err h, stp_err h]
theorem fold_T (nm : ByteArray → Bool) : ∀ t (dp : Nat) (s : St), s.e = 0 → dp ≤ 41 → (ndT t dp).foldl (stp nm) s = meterT nm t dp s := by
  refine Tm.ind (fun o n x a ih dp s h hd => ?_)
  rw [ndT, meterT, List.foldl_cons, stp, if_pos h]
  have e1 : wellN nm (headT dp (.mk o n x a)) = wellT nm (.mk o n x a) := by
    simp [wellN, headT, wellT]
  have e2 : (headT (dp : Int) (.mk o n x a)).dp.toNat = dp := by simp [headT]
  rw [e1, e2]
  by_cases h1 : (s.node dp (wellT nm (.mk o n x a))).e = 0
  · have := (node_deep h1).1
    rw [dn_nat dp (by omega)]
    exact fold_TL ih (dp + 1) (by omega) _
  · rw [stp_err h1, meterTL_err _ _ _ _ h1]
theorem fold_FL {nm : ByteArray → Bool} {a : List Fm} (ih : ∀ t ∈ a, ∀ (dp : Nat) (s : St), s.e = 0 → dp ≤ 41 → (ndF t dp).foldl (stp nm) s = meterF nm t dp s) (dp : Nat) (hd : dp ≤ 41) : ∀ s : St, (ndFL a dp).foldl (stp nm) s = meterFL nm a dp s := by
  induction a with
  | nil => intro s; rw [ndFL, meterFL]; rfl
  | cons t r ihr =>
    intro s
    rw [ndFL, meterFL, List.foldl_append]
    by_cases h : s.e = 0
    · rw [if_pos h, ih t (List.mem_cons_self ..) dp s h hd, ihr (fun u hu => ih u (List.mem_cons_of_mem _ hu))]
    · rw [if_neg h, stp_err h, stp_err h]
theorem fold_F (nm : ByteArray → Bool) : ∀ f (dp : Nat) (s : St), s.e = 0 → dp ≤ 41 → (ndF f dp).foldl (stp nm) s = meterF nm f dp s := by
  refine Fm.ind (fun o x m t a ih dp s h hd => ?_)
  rw [ndF, meterF, List.foldl_cons, stp, if_pos h]
  have e1 : wellN nm (headF dp (.mk o x m t a)) = wellF nm (.mk o x m t a) := by
    simp [wellN, headF, wellF]
  have e2 : (headF (dp : Int) (.mk o x m t a)).dp.toNat = dp := by simp [headF]
  rw [e1, e2, List.foldl_append]
  by_cases h1 : (s.node dp (wellF nm (.mk o x m t a))).e = 0
  · have := (node_deep h1).1
    rw [dn_nat dp (by omega), fold_TL (fun u _ => fold_T nm u) (dp + 1) (by omega), fold_FL ih (dp + 1) (by omega)]
  · rw [stp_err h1, stp_err h1, meterTL_err _ _ _ _ h1, meterFL_err _ _ _ _ h1]
/- the count -/
theorem stp_n {nm : ByteArray → Bool} {s : St} {x : Nd} (h : (stp nm s x).e = 0) : s.e = 0 ∧ (stp nm s x).n = s.n + 1 := by
  unfold stp at h ⊢
  by_cases h0 : s.e = 0
  · rw [if_pos h0]; exact ⟨h0, rfl⟩
  · rw [if_neg h0] at h; exact absurd h h0
abbrev run0 (nm : ByteArray → Bool) (l : List Nd) : St := l.foldl (stp nm) ⟨0, 0, 0⟩
theorem run_n {nm : ByteArray → Bool} (l : List Nd) (h : (run0 nm l).e = 0) : (run0 nm l).n = l.length ∧ l.length ≤ 500 := by
  have key : ∀ (l : List Nd) (s : St), s.n ≤ 500 → (l.foldl (stp nm) s).e = 0 → (l.foldl (stp nm) s).n = s.n + l.length ∧ s.n + l.length ≤ 500 := by
    intro l
    induction l with
    | nil => intro s hs h; exact ⟨rfl, hs⟩
    | cons x r ih =>
      intro s hs h
      rw [List.foldl_cons] at h ⊢
      have he : (stp nm s x).e = 0 := Decidable.byContradiction (fun hc => by rw [stp_err hc] at h; exact hc h)
      obtain ⟨h0, h1⟩ := stp_n he
      have h2 : (stp nm s x).n ≤ 500 := by
        unfold stp at he ⊢
        rw [if_pos h0] at he ⊢
        exact (node_deep he).2.1
      obtain ⟨a1, a2⟩ := ih _ h2 h
      rw [a1, h1, List.length_cons]
      rw [h1] at a2
      omega
  have := key l ⟨0, 0, 0⟩ (by simp) h
  simpa using this
theorem run_snoc (nm : ByteArray → Bool) (l : List Nd) (x : Nd) : run0 nm (l ++ [x]) = stp nm (run0 nm l) x := by simp [run0, List.foldl_append]
theorem run_pre {nm : ByteArray → Bool} {p l : List Nd} (h : p <+: l) (he : (run0 nm p).e ≠ 0) : run0 nm l = run0 nm p := by
  obtain ⟨r, rfl⟩ := h
  unfold run0
  rw [List.foldl_append, stp_err he]
theorem chk_run (nm : ByteArray → Bool) (f : Fm) : chk nm f = (run0 nm (ndF f 1)).e := by
  unfold chk run0
  rw [show (1 : Int) = ((1 : Nat) : Int) from rfl, fold_F nm f 1 ⟨0, 0, 0⟩ rfl (by omega)]
/- what one more node says -/
theorem run_many {nm : ByteArray → Bool} {l : List Nd} {x : Nd} (h : (run0 nm l).e = 0) (h1 : 500 < l.length + 1) : (run0 nm (l ++ [x])).e = 73 := by
  rw [run_snoc, stp, if_pos h]; unfold St.node; rw [(run_n l h).1]; simp only; rw [if_pos h1]
theorem run_deep {nm : ByteArray → Bool} {l : List Nd} {x : Nd} (h : (run0 nm l).e = 0) (h1 : ¬ 500 < l.length + 1) (h2 : 40 < x.dp) : (run0 nm (l ++ [x])).e = 72 := by
  rw [run_snoc, stp, if_pos h]; unfold St.node; rw [(run_n l h).1]; simp only; rw [if_neg h1, if_pos (by omega)]
theorem run_bad {nm : ByteArray → Bool} {l : List Nd} {x : Nd} (h : (run0 nm l).e = 0) (h1 : ¬ 500 < l.length + 1) (h2 : ¬ 40 < x.dp) (h3 : wellN nm x = false) : (run0 nm (l ++ [x])).e = 3 := by
  rw [run_snoc, stp, if_pos h]; unfold St.node; rw [(run_n l h).1]; simp only; rw [if_neg h1, if_neg (by omega), h3]; rfl
theorem run_ok {nm : ByteArray → Bool} {l : List Nd} {x : Nd} (h : (run0 nm l).e = 0) (h1 : ¬ 500 < l.length + 1) (h2 : ¬ 40 < x.dp) (h3 : wellN nm x = true) : (run0 nm (l ++ [x])).e = 0 := by
  rw [run_snoc, stp, if_pos h]; unfold St.node; rw [(run_n l h).1]; simp only; rw [if_neg h1, if_neg (by omega), h3]; exact h
end Go.Proofs.YtabfhdmcljdjhaaGreatDoor.Gl
/- What a round keeps of the memory of a walk over nodes. -/
namespace Go.Proofs.YtabfhdmcljdjhaaGreatDoor.Gl
open Go.RowKit Go.Shelf
set_option linter.unusedVariables false

/- a node as a value -/
abbrev ndC (x : Nd) : Array Value := #[.int .i64 x.dp, .bool x.isT, .int .i64 x.op, .int .i64 x.top, .string x.name, .int .i64 x.num, .int .i64 (x.terms : Nat), .int .i64 (x.args : Nat)]
abbrev ndV (x : Nd) : Value := .agg (ndC x)
abbrev NdS := { x : Nd // Sz x.name.size }
/- the types of what a walk lays -/
def WalkTy (t : TypeId) : Prop := t = 26 ∨ t = 43 ∨ t = 105
structure Kp (lo : Nat) (W W' : World) : Prop where
  below : Below lo W W'
  same : ∀ (k : Nat) (vs : Array Value) (t : TypeId) (m : Nat × Nat), WalkTy t → W.heap[k]? = some (Obj.cells vs t m) → W'.heap[k]? = some (Obj.cells vs t m)
theorem Kp.refl (lo : Nat) (W : World) : Kp lo W W := ⟨Below.refl _ _, fun _ _ _ _ _ h => h⟩
theorem Kp.trans {lo : Nat} {A B C : World} (h : Kp lo A B) (k : Kp lo B C) : Kp lo A C := ⟨h.below.trans k.below, fun i vs t m ht hi => k.same i vs t m ht (h.same i vs t m ht hi)⟩
theorem Kp.of {lo : Nat} {W W' : World} (h : Below W.heap.size W W') (hlo : lo ≤ W.heap.size) : Kp lo W W' :=
  ⟨h.mono hlo, fun k vs t m _ hk => (h.block k (Array.getElem?_eq_some_iff.1 hk).1).trans hk⟩
theorem Kp.one {lo b : Nat} {W W' : World} (h : W.grownBy W' (some b)) (hlo : lo ≤ W.heap.size) (hb : lo ≤ b) (ht : ∀ (vs : Array Value) (t : TypeId) (m : Nat × Nat), W.heap[b]? = some (Obj.cells vs t m) → ¬ WalkTy t) : Kp lo W W' :=
  ⟨(Below.refl lo W).grown h hlo (fun k e => by cases e; exact hb), fun k vs t m hw hk => (h.block k (Array.getElem?_eq_some_iff.1 hk).1 (fun e => by cases e; exact ht vs t m hk hw)).trans hk⟩
theorem Kp.put {lo : Nat} {w : World} (hlo : lo ≤ w.heap.size) : ∀ (W : World) (l : Nat) (o o' : Obj), w.heap.size ≤ l → W.heap[l]? = some o → o.isCells = false → o.isWalk = false → Kp lo W (W.putObj l o') := by
  intro W l o o' hl ho hc _
  have hlt := (Array.getElem?_eq_some_iff.1 ho).1
  refine Kp.one (b := l) (grownBy_putObj' W l o') (by omega) (by omega) (fun vs t m h => ?_)
  rw [ho] at h
  cases h
  cases hc
theorem Kp.cell {lo : Nat} {W W' : World} (h : Kp lo W W') {b : Nat} {vs : Array Value} {t : TypeId} {m : Nat × Nat} (ht : WalkTy t) (hb : W.heap[b]? = some (.cells vs t m)) (i : Nat) : W'.cell? ⟨b, i, none⟩ = W.cell? ⟨b, i, none⟩ :=
  World.cell?_of_block (w := W) ((h.same b vs t m ht hb).trans hb.symm)
theorem grown_of {W W' : World} (h : Below W.heap.size W W') : W.grownBy W' none := ⟨h.os, h.tape, h.output, h.size, fun k hk _ => h.block k hk⟩
/- where no depth is asked the figures are all one -/
theorem room_none {F : Fence} (hd : F.depth = none) (k : Nat) : F.room k := fun d h => by rw [hd] at h; cases h
theorem yield_any {F : Fence} (hd : F.depth = none) {m : Nat} (m' : Nat) {P : Program} {l : Nat} {args : Array Value} {W : World} {R : Ending → World → Prop} (h : YieldAt F m P l args W R) : YieldAt F m' P l args W R := by
  obtain ⟨fn, tmps, assign, body, hy, hR⟩ := h
  exact ⟨fn, tmps, assign, body, hy, hR.1, fun c cs _ => hR.2 c cs (room_none hd _)⟩
/-- a round -/
abbrev Rd (Pd : Nd → Prop) (l lo N : Nat) (J Jx : List Nd → World → Prop) : Prop := ∀ m pre (x : Nd) W, Pd x → J pre W → pre.length < N → YieldAt Fence.wide m Tryz.prog l #[ndV x] W fun e W' =>
  (e = .returned (.bool true) ∧ J (pre ++ [x]) W' ∧ Kp lo W W') ∨ (e = .returned (.bool false) ∧ Jx (pre ++ [x]) W')
/-- what a walk over the nodes ns answers -/
abbrev WalkR (lo : Nat) (J Jx : List Nd → World → Prop) (pre ns : List Nd) (w : World) : Ending → World → Prop := fun e w' =>
  (e = .returned (.bool true) ∧ J (pre ++ ns) w' ∧ Kp lo w w') ∨ (e = .returned (.bool false) ∧ ∃ q, q <+: ns ∧ Jx (pre ++ q) w')
end Go.Proofs.YtabfhdmcljdjhaaGreatDoor.Gl
/- The walk over a term's nodes. -/
namespace Go.Proofs.YtabfhdmcljdjhaaGreatDoor.Gl
open Go.RowKit Go.Shelf
set_option linter.unusedVariables false
attribute [local go_sem] Oper.semAt_some

set_option maxRecDepth 100000 in
set_option maxHeartbeats 4000000 in
theorem walkT_in (Pd : Nd → Prop) (W : World) (l lo N : Nat) (hlo : W.heap.size ≤ lo) (J Jx : List Nd → World → Prop) (hJ : ∀ pre A B, J pre A → Below A.heap.size A B → J pre B) (hY : Rd Pd l lo N J Jx) :
    ∀ t v (n : Nat) d pre w, (∀ x ∈ ndT t d, Pd x) → TmV W t v → Below W.heap.size W w → lo ≤ w.heap.size → J pre w → pre.length + (ndT t d).length ≤ N →
    CallsIn Fence.wide n Tryz.prog 74 #[v, .int .i64 d, .func (.yield l) #[] #[]] w (WalkR lo J Jx pre (ndT t d) w) := by
  refine Tm.ind (fun o nn x a ih v n d pre w hP hv hW hlw hj hN => ?_)
  obtain ⟨c0, c1, c2, c3, rfl, hr⟩ := hv
  rw [RdT] at hr
  obtain ⟨rfl, rfl, rfl, hbd, ao, ca, rfl, hlc, hcz, hLA⟩ := hr
  rw [ndT] at hN hP ⊢
  obtain ⟨b1, hb1⟩ : ∃ b, Obj.cells #[.int .i64 o, .int .i64 nn, .string x, .slice ao a.length ca] 43 = b := ⟨_, rfl⟩
  obtain ⟨b2, hb2⟩ : ∃ b, Obj.cells #[.string x, .int .i64 nn, .int .i64 0, .int .i64 (a.length : Nat)] 105 = b := ⟨_, rfl⟩
  have hB2 : Below w.heap.size w ((w.alloc b1).alloc b2) := ((Below.refl _ _).alloc (Nat.le_refl _) _).alloc (by simp) _
  have hbox : ((w.alloc b1).alloc b2).heap[w.heap.size]? = some b1 := (Below.heap_alloc _ _ _ (by simp)).trans (World.alloc_heap_new w _)
  have hy0 : YieldAt Fence.wide (n - 1) Tryz.prog l #[.agg #[.int .i64 d, .bool true, .int .i64 0, .int .i64 o, .string x, .int .i64 nn, .int .i64 0, .int .i64 (a.length : Nat)]] ((w.alloc b1).alloc b2) fun e W' =>
      (e = .returned (.bool true) ∧ J (pre ++ [headT d (.mk o nn x a)]) W' ∧ Kp lo w W' ∧ W'.cell? ⟨w.heap.size, 3, none⟩ = some (.slice ao a.length ca)) ∨ (e = .returned (.bool false) ∧ Jx (pre ++ [headT d (.mk o nn x a)]) W') := by
    refine YieldAt.mono (hY (n - 1) pre (headT d (.mk o nn x a)) _ (hP _ (List.mem_cons_self ..)) (hJ pre _ _ hj hB2) (by simp at hN; omega)) (fun e W' h => ?_)
    rcases h with ⟨he, hj', hk⟩ | ⟨he, hj'⟩
    · refine .inl ⟨he, hj', (Kp.of hB2 hlw).trans hk, ?_⟩
      subst hb1
      rw [hk.cell (.inr (.inl rfl)) hbox]
      simp [World.cell?, hbox]
    · exact .inr ⟨he, hj'⟩
  obtain ⟨fn, tmps, assign, body, hy, hR⟩ := hy0
  subst hb1 hb2
  clear hbox hB2
  have IH : Hid (∀ t ∈ a, ∀ v (n : Nat) d pre w, (∀ x ∈ ndT t d, Pd x) → TmV W t v → Below W.heap.size W w → lo ≤ w.heap.size → J pre w → pre.length + (ndT t d).length ≤ N →
    CallsIn Fence.wide n Tryz.prog 74 #[v, .int .i64 d, .func (.yield l) #[] #[]] w (WalkR lo J Jx pre (ndT t d) w)) := ih
  have HLA : Hid (RdTL W a ao 0) := hLA
  have HP : Hid (∀ x_1 ∈ headT d (.mk o nn x a) :: ndTL a (dn d), Pd x_1) := hP
  clear hP
  generalize hx : headT d (.mk o nn x a) = nd at *
  clear hx ih hLA
  have hdd : ∀ k : Nat, (Fence.wide.depth.isSome = true → 1 ≤ k) := fun k h => by cases h
  refine callsIn_of_wp Tryz.func74 rfl trivial ?_ rfl
  simp only [Tryz.ntmps74, List.size_toArray, List.length_cons, List.length_nil, Nat.reduceAdd, Nat.reduceSub, Array.replicate_succ, Array.replicate_zero, List.push_toArray, List.append_toArray, List.nil_append, List.cons_append]
  gi_wp2
  refine ⟨hdd _, ?_⟩
  refine hR.mono ?_
  rintro e W3 (⟨rfl, hj3, hk3, hc3⟩ | ⟨rfl, hx3⟩)
  · clear hR hy
    gi_wp2
    gi_loopw [29] (fun i wr => ∃ k : Nat, k ≤ a.length ∧ i = .int .i64 k ∧ J (pre ++ [nd] ++ ndTL (a.take k) (dn d)) wr ∧ Kp lo w wr) (fun i _ => a.length - (intOf i).toNat)
    case atStart => exact ⟨0, Nat.zero_le _, rfl, by simpa [ndTL] using hj3, hk3⟩
    case round =>
      obtain ⟨k, hk, rfl, hjr, hkr⟩ := hrel
      by_cases hlt : k < a.length
      · have hWr : Below W.heap.size W wr := hW.trans (hkr.below.mono hlo)
        obtain ⟨g, of, d0, d1, d2, d3, rfl, hg, q0, q1, q2, q3, hrd⟩ := HLA.out.get k hlt
        rw [Nat.zero_add] at q0 q1 q2 q3
        obtain ⟨⟨o', n', x', a'⟩, hak⟩ : ∃ u, a[k] = u := ⟨_, rfl⟩
        have hrd2 := hrd
        rw [hak, RdT] at hrd2
        obtain ⟨rfl, rfl, rfl, hbd', ao', ca', rfl, -⟩ := hrd2
        have p0 := (hWr.cell (p := ⟨g, of + k * 4, none⟩) hg).trans q0
        have p1 := (hWr.cell (p := ⟨g, of + k * 4 + 1, none⟩) hg).trans q1
        have p2 := (hWr.cell (p := ⟨g, of + k * 4 + 2, none⟩) hg).trans q2
        have p3 := (hWr.cell (p := ⟨g, of + k * 4 + 3, none⟩) hg).trans q3
        have hBa : Below wr.heap.size wr (wr.alloc (.cells #[.int .i64 o', .int .i64 n', .string x', .slice ao' a'.length ca'] 43)) := (Below.refl _ _).alloc (Nat.le_refl _) _
        have hls : lo ≤ wr.heap.size := Nat.le_trans hlw hkr.below.size
        have RC : Hid (CallsIn Fence.wide (n - 1) Tryz.prog 74 #[.agg #[.int .i64 o', .int .i64 n', .string x', .slice ao' a'.length ca'], .int .i64 (wrap64 (d + 1)), .func (.yield l) #[] #[]] (wr.alloc (.cells #[.int .i64 o', .int .i64 n', .string x', .slice ao' a'.length ca'] 43)) (fun e w' =>
            (e = .returned (.bool true) ∧ J (pre ++ [nd] ++ ndTL (a.take (k + 1)) (dn d)) w' ∧ Kp lo w w') ∨ (e = .returned (.bool false) ∧ ∃ q, q <+: nd :: ndTL a (dn d) ∧ Jx (pre ++ q) w'))) := by
          refine ((IH.out a[k] (List.getElem_mem hlt) _ (n - 1) (dn d) (pre ++ [nd] ++ ndTL (a.take k) (dn d)) (wr.alloc (.cells #[.int .i64 o', .int .i64 n', .string x', .slice ao' a'.length ca'] 43)) (fun y hy => HP.out y (List.mem_cons_of_mem _ (by rw [ndTL_split hlt (dn d)]; simp [hy]))) ⟨_, _, _, _, rfl, hrd⟩ (hWr.trans (hBa.mono hWr.size)) (by simp; omega) (hJ _ _ _ hjr hBa) ?_).mono ?_)
          · have := congrArg List.length (ndTL_split hlt (dn d))
            simp at this hN ⊢
            omega
          · rintro e w' (⟨he, hj', hk'⟩ | ⟨he, q, hq, hj'⟩)
            · refine .inl ⟨he, ?_, hkr.trans ((Kp.of hBa hls).trans hk')⟩
              rw [ndTL_take hlt, ← List.append_assoc]
              exact hj'
            · obtain ⟨r, hr⟩ := hq
              refine .inr ⟨he, nd :: (ndTL (a.take k) (dn d) ++ q), ?_, by simpa [List.append_assoc] using hj'⟩
              refine ⟨r ++ ndTL (a.drop (k + 1)) (dn d), ?_⟩
              rw [ndTL_split hlt (dn d), ← hr]
              simp [List.append_assoc]
        clear IH HLA HP q0 q1 q2 q3 hrd hjr hak
        gi_wp2
        refine ⟨trivial, hdd _, ?_⟩
        refine RC.out.mono ?_
        rintro e w5 (⟨rfl, hj5, hk5⟩ | ⟨rfl, q, hq, hx5⟩)
        · gi_wp2
          go_roundw
          case rel => exact ⟨k + 1, by omega, by go_num, hj5, hk5⟩
          case measure => simp [intOf]; omega
        · gi_wp2
          go_ret
          exact .inr ⟨rfl, q, hq, hx5⟩
      · obtain rfl : k = a.length := by omega
        gi_wp2
        go_ret
        exact .inl ⟨rfl, by simpa [List.append_assoc] using hjr, hkr⟩
  · gi_wp2
    go_ret
    exact .inr ⟨rfl, [nd], ⟨ndTL a (dn d), by simp⟩, hx3⟩
end Go.Proofs.YtabfhdmcljdjhaaGreatDoor.Gl
