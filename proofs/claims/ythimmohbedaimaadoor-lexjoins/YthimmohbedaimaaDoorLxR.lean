/- The walk of LexJoins where there is no fault. -/
import Derived.Test.YthimmohbedaimaaDoorLxQ
namespace Go.Proofs.YthimmohbedaimaaDoor.Gl
open Go.RowKit
set_option linter.unusedVariables false

def sh (d e : Nat) (x : FW) : FW := ⟨x.kind, x.text, x.num, d + x.byte, e + x.char⟩
theorem sh_get (L T : List FW) (d e k : Nat) (hk : k < T.length) : (L ++ T.map (sh d e)).getD (L.length + k) default = sh d e (T.getD k default) := by
  rw [List.getD_eq_getElem?_getD, List.getD_eq_getElem?_getD, List.getElem?_append_right (by omega), Nat.add_sub_cancel_left, List.getElem?_map, List.getElem?_eq_getElem hk]
  rfl
theorem RdW.pref {w : World} {ao : Option Addr} {m c : Nat} {L T : List FW} (h : RdW w ao (L.length + m) c (L ++ T)) : RdW w ao L.length c L := by
  have hc := h.lecap
  refine ⟨rfl, by omega, h.lemax, h.isnil, fun i hi => ?_⟩
  have := h.cell i (by omega)
  have e : (L ++ T).getD i default = L.getD i default := by rw [List.getD_eq_getElem?_getD, List.getD_eq_getElem?_getD, List.getElem?_append_left hi]
  rwa [e] at this
theorem getD_mem (T : List FW) (k : Nat) (hk : k < T.length) : T.getD k default ∈ T := by
  rw [List.getD_eq_getElem?_getD, List.getElem?_eq_getElem hk]
  exact List.getElem_mem hk
set_option maxRecDepth 100000 in
set_option maxHeartbeats 2000000 in
theorem joins_ok (C : LexC) (s t : ByteArray) (w : World) (hS : Sg w) (a b : List Wd) (hs : s.size + 1 + t.size ≤ 4096) (h : Lx s 0 a none) (h' : Lx t 0 b none) :
    Calls Tryd.prog 6 #[.string s, .string t] w fun e w' => e = .returned (.bool true) ∧ Below w.heap.size w w' := by
  have hz := join_size s t
  have hA : ∀ w ∈ a, w.byte ≤ s.size := fun w hw => Nat.le_of_lt (h.bd.1 w hw).2.1
  have hB : ∀ w ∈ b, w.byte < t.size := fun w hw => (h'.bd.1 w hw).2.1
  have WS := WA.good C s a (by omega) h
  have WT := WA.good C t b (by omega) h'
  have WU := WA.good C (s ++ blk ++ t) _ (by omega) (join_lx h h')
  rw [full_join hA (fun w hw => Nat.le_of_lt (hB w hw)), show b.map (fun w => (⟨w.kind, w.text, w.num, s.size + 1 + w.byte, cnt s + 1 + cnt (t.extract 0 w.byte)⟩ : FW)) = (b.map (full t)).map (sh (s.size + 1) (cnt s + 1)) by rw [List.map_map]; rfl] at WU
  have AT : Hid (∀ w, Calls Tryd.prog 10 #[.string s, .int .i64 (s.size : Nat)] w fun e w' => e = .returned (.tuple #[.agg #[.int .i64 (s.size : Nat), .int .i64 (cnt s : Nat)], .int .i64 0]) ∧ Below w.heap.size w w') := fun w => at_in s s.size _ w (by omega) (Nat.le_refl _) (by rw [extract_all]; exact cnt_cnt s)
  have hla : (a.map (full s)).length ≤ 4096 := by rw [List.length_map]; have := (h.small (by omega)).2; omega
  have hlb : (b.map (full t)).length ≤ 4096 := by rw [List.length_map]; have := (h'.small (by omega)).2; omega
  have HLT : Hid (∀ x ∈ b.map (full t), x.byte ≤ 4096 ∧ x.char ≤ 4096) := fun x hx => by
    obtain ⟨y, hy, rfl⟩ := List.mem_map.1 hx
    have h1 := hB y hy
    have h2 := cnt_le (t.extract 0 y.byte)
    rw [ByteArray.size_extract] at h2
    exact ⟨(show y.byte ≤ 4096 by omega), (show cnt (t.extract 0 y.byte) ≤ 4096 by omega)⟩
  have m1 := cnt_le s
  generalize cnt s = q at *
  generalize hL : a.map (full s) = L at *
  generalize hT : b.map (full t) = T at *
  have WS' : Hid _ := WS
  have WT' : Hid _ := WT
  have WU' : Hid _ := WU
  have FX : Hid (∀ w, Sg w → Calls Tryd.prog 7 #[] w fun e w' => e = .returned (.bool true) ∧ Below w.heap.size w w') := fun w hS => lfixed_at C w hS
  clear C WS WT WU h h' hL hT hA hB
  have hbk : blk.size = 1 := rfl
  have hz1 : (s ++ blk).size = s.size + 1 := by rw [ByteArray.size_append]; rfl
  go_enter Tryd.func6, Tryd.ntmps6
  go_wp2_with (go_at_call 7; refine (FX.out _ hS).mono ?_; rintro e w1 ⟨rfl, hB1⟩; have hS1 := hS.below hB1)
  refine (WS'.out _ hS1).mono ?_
  rintro e w2 ⟨v2, rfl, hO2, hB2⟩
  obtain ⟨a2, c2, rfl, hR2⟩ := rdw_of_owns rfl hO2
  go_wp2_with (fail)
  refine (WT'.out _ ((hS1.below hB2).alloc _)).mono ?_
  rintro e w3 ⟨v3, rfl, hO3, hB3⟩
  obtain ⟨a3, c3, rfl, hR3⟩ := rdw_of_owns rfl hO3
  go_wp2_with (fail)
  refine (WU'.out _ ((((hS1.below hB2).alloc _).below hB3).alloc _)).mono ?_
  rintro e w4 ⟨v4, rfl, hO4, hB4⟩
  obtain ⟨a4, c4, rfl, hR4⟩ := rdw_of_owns rfl hO4
  have hlen : (L ++ T.map (sh (s.size + 1) (q + 1))).length = L.length + T.length := by rw [List.length_append, List.length_map]
  rw [hlen] at hR4 ⊢
  obtain ⟨⟨x0, x1, x2⟩, y0, y1, y2⟩ := three_kept (.cells #[.int .i64 0, .int .i64 0, .int .i64 0] 29) hB3 hB4
  have hBw := bta (bt2 (bta (bt2 (bta (bt2 hB1 hB2) _) hB3) _) hB4) (.cells #[.int .i64 0, .int .i64 0, .int .i64 0] 29)
  have hQ2 := hR2.below (Nat.le_refl _) (bta (bt2 (bta (bt2 (bta (Below.refl w2.heap.size w2) _) hB3) _) hB4) (.cells #[.int .i64 0, .int .i64 0, .int .i64 0] 29))
  have hQ3 := hR3.below (Nat.le_refl _) (bta (bt2 (bta (Below.refl w3.heap.size w3) _) hB4) (.cells #[.int .i64 0, .int .i64 0, .int .i64 0] 29))
  have hQ4 := hR4.below (Nat.le_refl _) (bta (Below.refl w4.heap.size w4) (.cells #[.int .i64 0, .int .i64 0, .int .i64 0] 29))
  clear hR2 hR3 hR4 hlen
  clear FX WS' WT' WU' hB1 hB2 hO2 hO3 hO4 hB3 hB4
  go_wp2_with (fail)
  refine (AT.out _).mono ?_
  rintro e w5 ⟨rfl, hB5⟩
  obtain ⟨z0, z1, z2⟩ := cell_keep3 hB5
  have hl := World.block_lt_of_cell? _ _ y0
  have y0' := ((bcell hB5).1 _ 0 hl).trans y0
  have y1' := ((bcell hB5).1 _ 1 hl).trans y1
  have y2' := ((bcell hB5).1 _ 2 hl).trans y2
  have hl1 := lt_al (o := (.cells #[.int .i64 (s.size : Nat), .int .i64 q] 27)) (World.block_lt_of_cell? _ _ z0)
  have hl2 := lt_al (o := (.cells #[.int .i64 (s.size : Nat), .int .i64 q] 27)) (World.block_lt_of_cell? _ _ y0')
  have u0 := al_keep z0 hl1 ()
  have u1 := al_keep z1 hl1 ()
  have u2 := al_keep z2 hl1 ()
  have v0 := al_keep y0' hl2 ()
  have v1 := al_keep y1' hl2 ()
  have v2 := al_keep y2' hl2 ()
  have hBw5 := bta (bt2 hBw hB5) (.cells #[.int .i64 (s.size : Nat), .int .i64 q] 27)
  have hA2 := hQ2.below (Nat.le_refl _) (bta hB5 (.cells #[.int .i64 (s.size : Nat), .int .i64 q] 27))
  have hA3 := hQ3.below (Nat.le_refl _) (bta hB5 (.cells #[.int .i64 (s.size : Nat), .int .i64 q] 27))
  have hA4 := hQ4.below (Nat.le_refl _) (bta hB5 (.cells #[.int .i64 (s.size : Nat), .int .i64 q] 27))
  clear z0 z1 z2 y0 y1 y2 y0' y1' y2' x0 x1 x2 hB5 hBw AT hl hl1 hl2 hQ2 hQ3 hQ4
  have k2 := hA2.lecap
  have k3 := hA3.lecap
  have k4 := hA4.lecap
  have k5 := hA2.lemax
  have k6 := hA3.lemax
  have k7 := hA4.lemax
  go_wp2
  clear u0 u1 u2 v0 v1 v2
  go_loopw [118] (fun i wr => ∃ k : Nat, k ≤ T.length ∧ i = .int .i64 k ∧ Below (w5.alloc (.cells #[.int .i64 (s.size : Nat), .int .i64 q] 27)).heap.size (w5.alloc (.cells #[.int .i64 (s.size : Nat), .int .i64 q] 27)) wr) (fun i _ => T.length - (intOf i).toNat)
  case atStart => exact ⟨0, Nat.zero_le _, rfl, Below.refl _ _⟩
  case round =>
    obtain ⟨k, hk, rfl, hBr⟩ := hrel
    by_cases hlt : k < T.length
    · obtain ⟨g, o, rfl, hg, b0, b1, b2, b3, b4⟩ := (hA3.below (Nat.le_refl _) hBr).cell k hlt
      obtain ⟨g', o', rfl, hg', d0, d1, d2, d3, d4⟩ := (hA4.below (Nat.le_refl _) hBr).cell (L.length + k) (by omega)
      rw [sh_get L T _ _ k hlt] at d0 d1 d2 d3 d4
      obtain ⟨hx1, hx2⟩ := HLT.out (T.getD k default) (getD_mem T k hlt)
      obtain ⟨p0, p1⟩ := cell_keep hBr
      generalize T.getD k default = x at *
      obtain ⟨xk, xt, xn, xb, xc⟩ := x
      dsimp only [sh] at b0 b1 b2 b3 b4 d0 d1 d2 d3 d4 hx1 hx2
      have hlp := lt_al (o := .cells #[.int .i64 xk, .string xt, .int .i64 xn, .int .i64 xb, .int .i64 xc] 35) (World.block_lt_of_cell? _ _ p0)
      have p0' := al_keep p0 hlp ()
      have p1' := al_keep p1 hlp ()
      have cs1 : ((s.size + 1 + xb : Nat) : Int) = (s.size : Int) + 1 + (xb : Int) := by omega
      have cs2 : ((q + 1 + xc : Nat) : Int) = (q : Int) + 1 + (xc : Int) := by omega
      rw [cs1] at d3
      rw [cs2] at d4
      have hlq := lt_al (o := .cells #[.int .i64 xk, .string xt, .int .i64 xn, .int .i64 ((s.size : Int) + 1 + (xb : Int)), .int .i64 ((q : Int) + 1 + (xc : Int))] 35) hg'
      have e0 := al_keep d0 hlq ()
      have e1 := al_keep d1 hlq ()
      have e2 := al_keep d2 hlq ()
      have e3 := al_keep d3 hlq ()
      have e4 := al_keep d4 hlq ()
      have hBq := bta hBr (.cells #[.int .i64 xk, .string xt, .int .i64 xn, .int .i64 ((s.size : Int) + 1 + (xb : Int)), .int .i64 ((q : Int) + 1 + (xc : Int))] 35)
      have hnd := fun n => below_drewn hBq n
      have hxx : (xt.toList == xt.toList) = true := by simp
      clear cs1 cs2 d0 d1 d2 d3 d4 hA2 hA3 hA4
      go_wp2
      go_quiet (fail)
      go_wp2
      go_roundw
      case rel => exact ⟨k + 1, by omega, by go_num, hnd _⟩
      case measure => simp [intOf]; omega
    · obtain rfl : k = T.length := by omega
      have hRc := (hA4.below (Nat.le_refl _) hBr).pref
      have hRa := hA2.below (Nat.le_refl _) hBr
      have SM : Hid (∀ ao c, RdW wr ao L.length c L → Calls Tryd.prog 12 #[.slice ao L.length c, .slice a2 L.length c2] wr fun e w' => e = .returned (.bool true) ∧ Below wr.heap.size wr w') := fun ao c hr => wsame_at _ _ _ _ _ _ _ hr hRa
      have hBwr := bt2 hBw5 hBr
      clear hA2 hA3 hA4 hBr hBw5 HLT
      go_wp2_with (fail)
      refine (SM.out _ _ hRc).mono ?_
      rintro e w6 ⟨rfl, hB6⟩
      go_wp2
      go_ret
      exact ⟨rfl, bt2 hBwr hB6⟩
theorem joins_walk (C : LexC) (s t : ByteArray) (w : World) (hS : Sg w) (hs : s.size + 1 + t.size ≤ 9223372036854775807) :
    Calls Tryd.prog 6 #[.string s, .string t] w fun e w' => e = .returned (.bool true) ∧ Below w.heap.size w w' := by
  by_cases h : 4096 < s.size + 1 + t.size
  · exact joins_long C s t w hS h hs
  · obtain ⟨a, f, hl⟩ := Lx.ex s
    cases f with
    | some x => exact joins_f C s t w hS a x.1 x.2 (by omega) hl
    | none =>
      obtain ⟨b, g, hr⟩ := Lx.ex t
      cases g with
      | some x => exact joins_g C s t w hS a b x.1 x.2 (by omega) hl hr
      | none => exact joins_ok C s t w hS a b (by omega) hl hr
end Go.Proofs.YthimmohbedaimaaDoor.Gl
