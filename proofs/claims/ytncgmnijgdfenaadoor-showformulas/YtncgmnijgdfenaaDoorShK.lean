/- The writer's combined and term. -/
import Derived.Test.YtncgmnijgdfenaaDoorShJ
namespace Go.Proofs.YtncgmnijgdfenaaDoor.Gl
open Go Go.RowKit
set_option linter.unusedVariables false
set_option linter.unusedSimpArgs false

theorem RdT.op {W : World} {t : Tm} {c0 c1 c2 c3 : Value} (h : RdT W t c0 c1 c2 c3) : c0 = .int .i64 t.op := by
  cases t
  rw [RdT] at h
  exact h.1
/-- a term's cells at a place -/
structure At4 (W : World) (g o : Nat) (c0 c1 c2 c3 : Value) : Prop where
  lt : g < W.heap.size
  k0 : W.cell? ⟨g, o, none⟩ = some c0
  k1 : W.cell? ⟨g, o + 1, none⟩ = some c1
  k2 : W.cell? ⟨g, o + 2, none⟩ = some c2
  k3 : W.cell? ⟨g, o + 3, none⟩ = some c3
theorem At4.to {W w : World} {g o : Nat} {c0 c1 c2 c3 : Value} (h : At4 W g o c0 c1 c2 c3) (hb : Below W.heap.size W w) : w.cell? ⟨g, o, none⟩ = some c0 ∧ w.cell? ⟨g, o + 1, none⟩ = some c1 ∧ w.cell? ⟨g, o + 2, none⟩ = some c2 ∧ w.cell? ⟨g, o + 3, none⟩ = some c3 :=
  ⟨(hb.cell (p := ⟨g, o, none⟩) h.lt).trans h.k0, (hb.cell (p := ⟨g, o + 1, none⟩) h.lt).trans h.k1, (hb.cell (p := ⟨g, o + 2, none⟩) h.lt).trans h.k2, (hb.cell (p := ⟨g, o + 3, none⟩) h.lt).trans h.k3⟩
theorem rdtl_one {W : World} {t : Tm} {l : List Tm} {ao : Option Addr} (h : RdTL W (t :: l) ao 0) : ∃ g o c0 c1 c2 c3, ao = some ⟨g, o, none⟩ ∧ At4 W g o c0 c1 c2 c3 ∧ RdT W t c0 c1 c2 c3 := by
  rw [RdTL] at h
  obtain ⟨⟨g, o, c0, c1, c2, c3, e, hg, k0, k1, k2, k3, hr⟩, _⟩ := h
  exact ⟨g, o, c0, c1, c2, c3, e, ⟨hg, by simpa using k0, by simpa using k1, by simpa using k2, by simpa using k3⟩, hr⟩
theorem rdtl_two {W : World} {t u : Tm} {l : List Tm} {ao : Option Addr} (h : RdTL W (t :: u :: l) ao 0) : ∃ g o c0 c1 c2 c3 d0 d1 d2 d3, ao = some ⟨g, o, none⟩ ∧ (At4 W g o c0 c1 c2 c3 ∧ RdT W t c0 c1 c2 c3) ∧ At4 W g (o + 4) d0 d1 d2 d3 ∧ RdT W u d0 d1 d2 d3 := by
  rw [RdTL, RdTL] at h
  obtain ⟨⟨g, o, c0, c1, c2, c3, e, hg, k0, k1, k2, k3, hr⟩, ⟨g', o', d0, d1, d2, d3, e', hg', j0, j1, j2, j3, hr'⟩, _⟩ := h
  rw [e] at e'
  cases e'
  exact ⟨g, o, c0, c1, c2, c3, d0, d1, d2, d3, e, ⟨⟨hg, by simpa using k0, by simpa using k1, by simpa using k2, by simpa using k3⟩, hr⟩, ⟨hg, by simpa using j0, by simpa using j1, by simpa using j2, by simpa using j3⟩, hr'⟩
theorem tb_blk : tbs blk = [32] := rfl
theorem blk_size : blk.size = 1 := rfl
abbrev brL (b : Bool) (bs : List UInt8) : List UInt8 := if b = true then 91 :: (bs ++ [93]) else bs
theorem brL_len (b : Bool) (bs : List UInt8) : (brL b bs).length ≤ bs.length + 2 := by
  unfold brL
  split
  · simp
  · omega
set_option maxRecDepth 100000 in
set_option maxHeartbeats 1000000 in
theorem combined_at {W : World} {b : Nat} (hb : W.heap.size ≤ b) (g o cap : Nat) (c0 d0 : Int) (c1 c2 c3 d1 d2 d3 : Value) (bs cs : List UInt8) (hc : At4 W g o (.int .i64 c0) c1 c2 c3) (hd : At4 W g (o + 4) (.int .i64 d0) d1 d2 d3) (HT : TC W b bs (.int .i64 c0) c1 c2 c3) (HU : TC W b cs (.int .i64 d0) d1 d2 d3)
    (x : ByteArray) (s1 s2 : Nat) (B1 B2 : Bool) (w : World) (l : List UInt8) (hW : Below W.heap.size W w) (h : Bw w b l) (hlen : l.length + (brL B1 bs ++ (32 :: (tbs x ++ (32 :: brL B2 cs)))).length ≤ 140737488355328) (hcap : 2 ≤ cap) (hcz : cap ≤ 9223372036854775807) (e1 : B1 = decide (¬ s1 ≤ strT c0)) (e2 : B2 = decide (¬ s2 ≤ strT d0)) :
    Calls Tryd.prog 32 #[.pointer (some ⟨b, 0, none⟩), .slice (some ⟨g, o, none⟩) 2 cap, .int .i64 (s1 : Nat), .string x, .int .i64 (s2 : Nat)] w (WrA b l (brL B1 bs ++ (32 :: (tbs x ++ (32 :: brL B2 cs)))) w) := by
  have E1 := mkHid (show (if s1 ≤ strT c0 then bs else 91 :: (bs ++ [93])) = brL B1 bs by subst e1; unfold brL; by_cases hs : s1 ≤ strT c0 <;> simp [hs])
  have E2 := mkHid (show (if s2 ≤ strT d0 then cs else 91 :: (cs ++ [93])) = brL B2 cs by subst e2; unfold brL; by_cases hs : s2 ≤ strT d0 <;> simp [hs])
  simp only [List.length_append, List.length_cons, tb_len] at hlen
  have PA := mkHid (part_at hb c0 c1 c2 c3 bs HT s1 w l hW h (by rw [E1.out]; omega))
  have PB := mkHid (fun w l hW h hl => part_at hb d0 d1 d2 d3 cs HU s2 w l hW h hl)
  rw [E1.out] at PA
  rw [E2.out] at PB
  obtain ⟨x0, x1, x2, x3⟩ := hc.to hW
  have HW := mkHid hW
  have HD := mkHid hd
  have HX := mkHid (tb_len x)
  clear HT HU E1 E2 e1 e2 hc hd h hW
  go_enter Tryd.func32, Tryd.ntmps32
  go_wp2_with (fail)
  refine PA.out.mono ?_
  rintro e w3 ⟨rfl, hb3, hk3⟩
  have P1 := mkHid (put3 hb3 blk x blk (by rw [List.length_append, blk_size]; omega) rfl)
  have hk3' := mkHid hk3
  clear hb3 hk3 x0 x1 x2 x3
  go_wp2_with (fail)
  refine P1.out.mono ?_
  rintro e w4 ⟨rfl, hb4, hk4⟩
  have hW4 := mkHid ((HW.out.trans (hk3'.out.low hb)).trans (hk4.low hb))
  obtain ⟨x0, x1, x2, x3⟩ := HD.out.to hW4.out
  have PB' := mkHid (PB.out w4 _ hW4.out hb4 (by rw [List.length_append, List.length_append, List.length_append, List.length_append, tb_blk, HX.out]; simp only [List.length_singleton]; omega))
  have hk4' := mkHid hk4
  clear hb4 hk4
  go_wp2_with (fail)
  refine PB'.out.mono ?_
  rintro e w5 ⟨rfl, hb5, hk5⟩
  have hbz := mkHid hb5
  have hkz := mkHid ((hk3'.out.trans hk4'.out).trans hk5)
  clear hb5 hk5
  go_wp2
  go_end0
  refine ⟨rfl, ?_, hkz.out⟩
  have := hbz.out
  rw [tb_blk] at this
  simpa [List.append_assoc] using this
end Go.Proofs.YtncgmnijgdfenaaDoor.Gl
