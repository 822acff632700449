/- The landed reader: takes, needs, refuse; connect, combine. -/
import Derived.Test.YtabfhdmcljdjhaaDoorPcB
namespace Go.Proofs.YtabfhdmcljdjhaaDoor.Gl
open Go.RowKit
set_option linter.unusedVariables false
set_option linter.unusedSimpArgs false

theorem mkHid {p : Prop} (h : p) : Hid p := h
theorem Ps.alloc {X : Rx} {w : World} {P : Pos} (h : Ps X w P) (o : Obj) : Ps X (w.alloc o) P := h.keep (bal w o)
theorem Ps.lt_n {X : Rx} {w : World} {p : Nat} {x : ByteArray} (h : Ps X w (.at p)) (hs : IsS X.ws p x) : p < X.ws.length := hs.lt
/-- the word that stands there, as it is read -/
theorem hd_sign {X : Rx} {p : Nat} {x : ByteArray} (h : IsS X.ws p x) : ∃ nu by' ch : Nat, hdW X.s ((Pos.at p).word X.ws) = ⟨2, x, nu, by', ch⟩ := by
  obtain ⟨y, hy, hk, rfl⟩ := h
  exact ⟨_, _, _, by simp [Pos.word, hy, hdW, full, hk]; exact ⟨rfl, rfl, rfl⟩⟩
theorem hd_not {X : Rx} {P : Pos} {x : ByteArray} (hx : x ≠ emp) (h : ¬ P.stands X.ws x) (hk : (hdW X.s (P.word X.ws)).kind = 2) : (hdW X.s (P.word X.ws)).text ≠ x := by
  intro e
  cases P with
  | bad y q => exact hx e.symm
  | «at» p =>
    cases hy : X.ws[p]? with
    | none => rw [Pos.word, hy] at e; exact hx e.symm
    | some y =>
      rw [Pos.word, hy] at e hk
      exact h ⟨y, hy, hk, e⟩
set_option maxHeartbeats 4000000 in
theorem takes_yes {X : Rx} {w : World} {p : Nat} {x : ByteArray} (h : Ps X w (.at p)) (hs : IsS X.ws p x) :
    Calls Tryd.prog 23 #[.pointer (some ⟨X.b, 0, none⟩), .string x] w fun e w' => e = .returned (.bool true) ∧ Ps X w' (.at (p + 1)) ∧ Bux X.b w w' := by
  obtain ⟨nu, by', ch, hw⟩ := hd_sign hs
  have hlt := hs.lt
  have FC : Hid (Calls Tryd.prog 32 #[.pointer (some ⟨X.b, 0, none⟩)] w fun e w' => e = .returned (.agg #[.int .i64 2, .string x, .int .i64 (nu : Nat), .int .i64 (by' : Nat), .int .i64 (ch : Nat)]) ∧ Below w.heap.size w w') := first_at h _ hw
  have hq : (x.toList == x.toList) = true := (eqS_iff _ _).2 rfl
  clear hw
  go_enter Tryd.func23, Tryd.ntmps23
  go_wp2_with (first
    | (go_at_call 32; refine (FC.out).mono ?_; rintro e w1 ⟨rfl, hB1⟩; have h1 := h.keep hB1)
    | (go_at_call 34; refine (pass_at (h1.alloc _) hlt).mono ?_; rintro e w3 ⟨rfl, h3, hB3⟩))
  go_ret
  exact ⟨rfl, h3, (Bux.of (bta hB1 _)).trans hB3⟩
set_option maxHeartbeats 4000000 in
theorem takes_no {X : Rx} {w : World} {P : Pos} {x : ByteArray} (h : Ps X w P) (hx : x ≠ emp) (hs : ¬ P.stands X.ws x) :
    Calls Tryd.prog 23 #[.pointer (some ⟨X.b, 0, none⟩), .string x] w fun e w' => e = .returned (.bool false) ∧ Ps X w' P ∧ Below w.heap.size w w' := by
  have hno := hd_not (X := X) hx hs
  obtain ⟨⟨kd, tx, nu, by', ch⟩, hw⟩ : ∃ y, hdW X.s (P.word X.ws) = y := ⟨_, rfl⟩
  rw [hw] at hno
  have FC : Hid (Calls Tryd.prog 32 #[.pointer (some ⟨X.b, 0, none⟩)] w fun e w' => e = .returned (.agg #[.int .i64 (kd : Nat), .string tx, .int .i64 (nu : Nat), .int .i64 (by' : Nat), .int .i64 (ch : Nat)]) ∧ Below w.heap.size w w') := first_at h _ hw
  clear hw hs
  by_cases hk : kd = 2
  · have hq : (tx.toList == x.toList) = false := by
      cases hq : (tx.toList == x.toList) with
      | false => rfl
      | true => exact absurd ((eqS_iff _ _).1 hq) (hno hk)
    subst hk
    clear hno
    go_enter Tryd.func23, Tryd.ntmps23
    go_wp2_with (go_at_call 32; refine (FC.out).mono ?_; rintro e w1 ⟨rfl, hB1⟩; have h1 := h.keep hB1)
    go_ret
    exact ⟨rfl, h1.alloc _, bta hB1 _⟩
  · have hk' : ((kd : Int) == 2) = false := by rw [beq_eq_false_iff_ne]; omega
    clear hno
    go_enter Tryd.func23, Tryd.ntmps23
    go_wp2_with (go_at_call 32; refine (FC.out).mono ?_; rintro e w1 ⟨rfl, hB1⟩; have h1 := h.keep hB1)
    go_ret
    exact ⟨rfl, h1.alloc _, bta hB1 _⟩
/- refuse -/
theorem hd_place {X : Rx} (p : Nat) : ∃ kd nu : Nat, ∃ tx, hdW X.s ((Pos.at p).word X.ws) = ⟨kd, tx, nu, pcB X.s X.ws p, pcC X.s X.ws p⟩ := by
  simp only [pcB, pcC, Pos.word]
  cases X.ws[p]? with
  | none => exact ⟨2, 0, emp, rfl⟩
  | some y => exact ⟨y.kind, y.num, y.text, rfl⟩
set_option maxHeartbeats 4000000 in
theorem refuse_bad {X : Rx} {w : World} {y q : Nat} (h : Ps X w (.bad y q)) (y' : Nat) :
    Calls Tryd.prog 21 #[.pointer (some ⟨X.b, 0, none⟩), .int .i64 (y' : Nat)] w fun e w' => e = .returned (.tuple #[]) ∧ Ps X w' (.bad y q) ∧ Bux X.b w w' := by
  obtain ⟨hy, hR⟩ := h.at'
  obtain ⟨t0, f0⟩ := txcell hR 0 _ rfl
  obtain ⟨t3, -⟩ := txcell hR 3 _ rfl
  have hy' : ((y : Int) == 0) = false := by rw [beq_eq_false_iff_ne]; omega
  have hB : Bux X.b w (w.setCell ⟨X.b, 0, none⟩ (.slice none 0 0)) := (Bux.refl _ w).set 0 _
  have HF : Hid (Ps X (w.setCell ⟨X.b, 0, none⟩ (.slice none 0 0)) (.bad y q) ∧ Bux X.b w (w.setCell ⟨X.b, 0, none⟩ (.slice none 0 0))) := ⟨h.to hB ⟨hy, tx_set hR 0 _⟩, hB⟩
  obtain ⟨b, hb⟩ : ∃ b, X.b = b := ⟨_, rfl⟩
  rw [hb] at t0 f0 t3
  rw [hb]
  clear hR h hB
  go_enter Tryd.func21, Tryd.ntmps21
  go_wp2
  go_end0
  have := HF.out
  rw [hb] at this
  exact ⟨rfl, this⟩
theorem field_place (kd nu by' ch : Nat) (tx : ByteArray) (w : World) : (Instr.field 76 (.agg #[.int .i64 (kd : Nat), .string tx, .int .i64 (nu : Nat), .int .i64 (by' : Nat), .int .i64 (ch : Nat)]) 3).run Tryd.prog w = .ok (.agg #[.int .i64 (by' : Nat), .int .i64 (ch : Nat)]) w := by kernel_rfl
set_option maxHeartbeats 4000000 in
theorem refuse_at {X : Rx} {w : World} {p : Nat} (h : Ps X w (.at p)) (y' : Nat) (hy0 : y' ≠ 0) :
    Calls Tryd.prog 21 #[.pointer (some ⟨X.b, 0, none⟩), .int .i64 (y' : Nat)] w fun e w' => e = .returned (.tuple #[]) ∧ Ps X w' (.bad y' p) ∧ Bux X.b w w' := by
  obtain ⟨hp, a, c, hac, hR⟩ := h.at'
  obtain ⟨kd, nu, tx, hw⟩ := hd_place (X := X) p
  have FC : Hid (Calls Tryd.prog 32 #[.pointer (some ⟨X.b, 0, none⟩)] w fun e w' => e = .returned (.agg #[.int .i64 (kd : Nat), .string tx, .int .i64 (nu : Nat), .int .i64 (pcB X.s X.ws p : Nat), .int .i64 (pcC X.s X.ws p : Nat)]) ∧ Below w.heap.size w w') := first_at h _ hw
  obtain ⟨t3, f3⟩ := txcell hR 3 _ rfl
  have HF : Hid (∀ w1, Below w.heap.size w w1 → (∀ i, i < 6 → (∃ v, w1.cell? ⟨X.b, i, none⟩ = some v) ∧ w1.frozen? ⟨X.b, i, none⟩ = false) ∧ Ps X ((((w1.setCell ⟨X.b, 3, none⟩ (.int .i64 (y' : Nat))).setCell ⟨X.b, 4, none⟩ (.int .i64 (pcB X.s X.ws p : Nat))).setCell ⟨X.b, 5, none⟩ (.int .i64 (pcC X.s X.ws p : Nat))).setCell ⟨X.b, 0, none⟩ (.slice none 0 0)) (.bad y' p) ∧ Bux X.b w ((((w1.setCell ⟨X.b, 3, none⟩ (.int .i64 (y' : Nat))).setCell ⟨X.b, 4, none⟩ (.int .i64 (pcB X.s X.ws p : Nat))).setCell ⟨X.b, 5, none⟩ (.int .i64 (pcC X.s X.ws p : Nat))).setCell ⟨X.b, 0, none⟩ (.slice none 0 0))) := fun w1 hB1 => by
    have h1 := h.keep hB1
    have hR1 := hR.keep hB1
    have hB2 : Bux X.b w1 ((((w1.setCell ⟨X.b, 3, none⟩ (.int .i64 (y' : Nat))).setCell ⟨X.b, 4, none⟩ (.int .i64 (pcB X.s X.ws p : Nat))).setCell ⟨X.b, 5, none⟩ (.int .i64 (pcC X.s X.ws p : Nat))).setCell ⟨X.b, 0, none⟩ (.slice none 0 0)) := ((((Bux.refl _ w1).set 3 _).set 4 _).set 5 _).set 0 _
    refine ⟨fun i hi => ?_, h1.to hB2 ⟨hy0, tx_set (tx_set (tx_set (tx_set hR1 3 _) 4 _) 5 _) 0 _⟩, (Bux.of hB1).trans hB2⟩
    rcases (show i = 0 ∨ i = 1 ∨ i = 2 ∨ i = 3 ∨ i = 4 ∨ i = 5 by omega) with rfl | rfl | rfl | rfl | rfl | rfl
    · exact ⟨⟨_, (txcell hR1 0 _ rfl).1⟩, (txcell hR1 0 _ rfl).2⟩
    · exact ⟨⟨_, (txcell hR1 1 _ rfl).1⟩, (txcell hR1 1 _ rfl).2⟩
    · exact ⟨⟨_, (txcell hR1 2 _ rfl).1⟩, (txcell hR1 2 _ rfl).2⟩
    · exact ⟨⟨_, (txcell hR1 3 _ rfl).1⟩, (txcell hR1 3 _ rfl).2⟩
    · exact ⟨⟨_, (txcell hR1 4 _ rfl).1⟩, (txcell hR1 4 _ rfl).2⟩
    · exact ⟨⟨_, (txcell hR1 5 _ rfl).1⟩, (txcell hR1 5 _ rfl).2⟩
  obtain ⟨b, hb⟩ : ∃ b, X.b = b := ⟨_, rfl⟩
  obtain ⟨pb, hpb⟩ : ∃ b, pcB X.s X.ws p = b := ⟨_, rfl⟩
  obtain ⟨pc, hpc⟩ : ∃ b, pcC X.s X.ws p = b := ⟨_, rfl⟩
  rw [hb, hpb, hpc] at HF FC
  rw [hb] at t3
  rw [hb]
  clear hR h hac hw hpb hpc
  have hfd := field_place kd nu pb pc tx
  go_enter Tryd.func21, Tryd.ntmps21
  go_wp2_with (go_at_call 32; refine (FC.out).mono ?_; rintro e w1 ⟨rfl, hB1⟩; have HG := HF.out w1 hB1; obtain ⟨hfz, HH⟩ := HG; obtain ⟨⟨v3, e3⟩, q3⟩ := hfz 3 (by omega); obtain ⟨⟨v4, e4⟩, q4⟩ := hfz 4 (by omega); obtain ⟨⟨v5, e5⟩, q5⟩ := hfz 5 (by omega); obtain ⟨⟨v0, e0⟩, q0⟩ := hfz 0 (by omega); have HK := mkHid HH; clear HH hfz)
  go_end0
  exact ⟨rfl, HK.out⟩
theorem refuse_any {X : Rx} {w : World} {P : Pos} (h : Ps X w P) (y' : Nat) (hy0 : y' ≠ 0) :
    Calls Tryd.prog 21 #[.pointer (some ⟨X.b, 0, none⟩), .int .i64 (y' : Nat)] w fun e w' => e = .returned (.tuple #[]) ∧ Ps X w' (P.ref y') ∧ Bux X.b w w' := by
  cases P with
  | bad y q => exact refuse_bad h y'
  | «at» p => exact refuse_at h y' hy0
/- needs -/
set_option maxHeartbeats 4000000 in
theorem needs_at {X : Rx} {w : World} {P P' : Pos} {x : ByteArray} (h : Ps X w P) (hx : x ≠ emp) (hn : P.need X.ws x P') :
    Calls Tryd.prog 61 #[.pointer (some ⟨X.b, 0, none⟩), .string x] w fun e w' => e = .returned (.tuple #[]) ∧ Ps X w' P' ∧ Bux X.b w w' := by
  rcases hn with ⟨p, rfl, hs, rfl⟩ | ⟨hs, rfl⟩
  · have TC := mkHid (takes_yes h hs)
    go_enter Tryd.func61, Tryd.ntmps61
    go_wp2_with (go_at_call 23; refine (TC.out).mono ?_; rintro e w1 ⟨rfl, h1, hB1⟩)
    go_end0
    exact ⟨rfl, h1, hB1⟩
  · have TC := mkHid (takes_no h hx hs)
    go_enter Tryd.func61, Tryd.ntmps61
    go_wp2_with (first
      | (go_at_call 23; refine (TC.out).mono ?_; rintro e w1 ⟨rfl, h1, hB1⟩)
      | (go_at_call 21; refine (refuse_any h1 71 (by decide)).mono ?_; rintro e w2 ⟨rfl, h2, hB2⟩))
    go_end0
    exact ⟨rfl, h2, (Bux.of hB1).trans hB2⟩
/- connect, combine -/
set_option maxHeartbeats 4000000 in
theorem connect_at (o : Int) (a : Option Addr) (n c : Nat) (w : World) :
    Calls Tryd.prog 24 #[.int .i64 o, .slice a n c] w fun e w' => e = .returned (.agg #[.int .i64 o, .string emp, .int .i64 0, .slice none 0 0, .slice a n c]) ∧ Below w.heap.size w w' := by
  go_enter Tryd.func24, Tryd.ntmps24
  go_wp2
  exact bodyPost_ret (v := .agg #[.int .i64 o, .string emp, .int .i64 0, .slice none 0 0, .slice a n c]) (by simp [results, Tryd.results24, go_sem]) rfl ⟨rfl, bal w _⟩
set_option maxHeartbeats 4000000 in
theorem combine_at (o : Int) (a : Option Addr) (n c : Nat) (w : World) :
    Calls Tryd.prog 77 #[.int .i64 o, .slice a n c] w fun e w' => e = .returned (.agg #[.int .i64 o, .int .i64 0, .string emp, .slice a n c]) ∧ Below w.heap.size w w' := by
  go_enter Tryd.func77, Tryd.ntmps77
  go_wp2
  exact bodyPost_ret (v := .agg #[.int .i64 o, .int .i64 0, .string emp, .slice a n c]) (by simp [results, Tryd.results77, go_sem]) rfl ⟨rfl, bal w _⟩
end Go.Proofs.YtabfhdmcljdjhaaDoor.Gl
