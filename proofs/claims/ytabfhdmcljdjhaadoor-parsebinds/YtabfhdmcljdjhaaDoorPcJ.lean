/- The landed reader: factor; name, modulus, relation. -/
import Derived.Test.YtabfhdmcljdjhaaDoorPcI
namespace Go.Proofs.YtabfhdmcljdjhaaDoor.Gl
open Go.RowKit
set_option linter.unusedVariables false
set_option linter.unusedSimpArgs false

theorem hd_kind {X : Rx} {P : Pos} {k : Nat} (hk : k ≠ 2) : (hdW X.s (P.word X.ws)).kind = k ↔ P.kinds X.ws k := by
  cases P with
  | bad y q => exact ⟨fun h => absurd h.symm hk, fun h => h.elim⟩
  | «at» p =>
    simp only [Pos.word, Pos.kinds]
    cases hy : X.ws[p]? with
    | none => exact ⟨fun h => absurd h.symm hk, fun ⟨y, h, _⟩ => by simp at h⟩
    | some y => exact ⟨fun h => ⟨y, rfl, h⟩, fun ⟨z, h, hz⟩ => by simp at h; subst h; exact hz⟩
theorem hd_name {X : Rx} {p : Nat} {x : ByteArray} (h : IsN X.ws p x) : ∃ nu by' ch : Nat, hdW X.s ((Pos.at p).word X.ws) = ⟨0, x, nu, by', ch⟩ := by
  obtain ⟨y, hy, hk, rfl⟩ := h
  exact ⟨_, _, _, by simp [Pos.word, hy, hdW, full, hk]; exact ⟨rfl, rfl, rfl⟩⟩
theorem hd_num {X : Rx} {p n : Nat} (h : IsD X.ws p n) : ∃ tx, ∃ by' ch : Nat, hdW X.s ((Pos.at p).word X.ws) = ⟨1, tx, n, by', ch⟩ := by
  obtain ⟨y, hy, hk, rfl⟩ := h
  exact ⟨_, _, _, by simp [Pos.word, hy, hdW, full, hk]; exact ⟨rfl, rfl, rfl⟩⟩
theorem isN_kinds {ws : List Wd} {P : Pos} (h : P.kinds ws 0) : ∃ p x, P = .at p ∧ IsN ws p x := by
  cases P with
  | bad y q => exact h.elim
  | «at» p => obtain ⟨y, hy, hk⟩ := h; exact ⟨p, y.text, rfl, y, hy, hk, rfl⟩
theorem isD_kinds {ws : List Wd} {P : Pos} (h : P.kinds ws 1) : ∃ p n, P = .at p ∧ IsD ws p n := by
  cases P with
  | bad y q => exact h.elim
  | «at» p => obtain ⟨y, hy, hk⟩ := h; exact ⟨p, y.num, rfl, y, hy, hk, rfl⟩
theorem first_kd {X : Rx} {w : World} {P : Pos} (h : Ps X w P) : ∃ kd nu by' ch : Nat, ∃ tx, (∀ k, k ≠ 2 → (kd = k ↔ P.kinds X.ws k)) ∧ Calls Tryd.prog 32 #[.pointer (some ⟨X.b, 0, none⟩)] w fun e w' => e = .returned (.agg #[.int .i64 (kd : Nat), .string tx, .int .i64 (nu : Nat), .int .i64 (by' : Nat), .int .i64 (ch : Nat)]) ∧ Below w.heap.size w w' := by
  obtain ⟨y, hw⟩ : ∃ y, hdW X.s (P.word X.ws) = y := ⟨_, rfl⟩
  refine ⟨y.kind, y.num, y.byte, y.char, y.text, fun k hk => ?_, first_at h _ hw⟩
  rw [← hw]
  exact hd_kind hk
abbrev wdV (kd nu by' ch : Nat) (tx : ByteArray) : Array Value := #[.int .i64 (kd : Nat), .string tx, .int .i64 (nu : Nat), .int .i64 (by' : Nat), .int .i64 (ch : Nat)]
/- name -/
set_option maxHeartbeats 4000000 in
theorem nm_yes {X : Rx} {w : World} {p : Nat} {x : ByteArray} (h : Ps X w (.at p)) (hx : IsN X.ws p x) :
    Calls Tryd.prog 68 #[.pointer (some ⟨X.b, 0, none⟩)] w fun e w' => e = .returned (.string x) ∧ Ps X w' (.at (p + 1)) ∧ Bux X.b w w' := by
  obtain ⟨nu, by', ch, hw⟩ := hd_name hx
  have hlt := hx.lt
  have hbw := h.lt
  have FC : Hid (Calls Tryd.prog 32 #[.pointer (some ⟨X.b, 0, none⟩)] w fun e w' => e = .returned (.agg #[.int .i64 0, .string x, .int .i64 (nu : Nat), .int .i64 (by' : Nat), .int .i64 (ch : Nat)]) ∧ Below w.heap.size w w') := first_at h _ hw
  clear hw hx
  go_enter Tryd.func68, Tryd.ntmps68
  go_wp2_with (first
    | (go_at_call 32; refine (FC.out).mono ?_; rintro e w1 ⟨rfl, hB1⟩; have h1 := h.keep hB1; have hs1 := hB1.size; have hX2 := rb_new w1 #[.int .i64 0, .string x, .int .i64 (nu : Nat), .int .i64 (by' : Nat), .int .i64 (ch : Nat)] 76)
    | (go_at_call 34; refine (pass_at (h1.alloc _) hlt).mono ?_; rintro e w3 ⟨rfl, h3, hB3⟩; have hX3 := hX2.but hB3 (by omega); obtain ⟨x1, -⟩ := txcell hX3 1 _ rfl))
  go_ret
  exact ⟨rfl, h3, (Bux.of (bta hB1 _)).trans hB3⟩
set_option maxHeartbeats 4000000 in
theorem nm_no {X : Rx} {w : World} {P : Pos} (h : Ps X w P) (hn : ¬ P.kinds X.ws 0) :
    Calls Tryd.prog 68 #[.pointer (some ⟨X.b, 0, none⟩)] w fun e w' => e = .returned (.string emp) ∧ Ps X w' (P.ref 71) ∧ Bux X.b w w' := by
  obtain ⟨kd, nu, by', ch, tx, hkd, FC0⟩ := first_kd h
  have FC := mkHid FC0
  have hk' : ((kd : Int) == 0) = false := by rw [beq_eq_false_iff_ne]; have := mt (hkd 0 (by decide)).1 hn; omega
  clear FC0 hkd hn
  go_enter Tryd.func68, Tryd.ntmps68
  go_wp2_with (first
    | (go_at_call 32; refine (FC.out).mono ?_; rintro e w1 ⟨rfl, hB1⟩; have h1 := h.keep hB1)
    | (go_at_call 21; refine (refuse_any (h1.alloc _) 71 (by decide)).mono ?_; rintro e w3 ⟨rfl, h3, hB3⟩))
  go_ret
  exact ⟨rfl, h3, (Bux.of (bta hB1 _)).trans hB3⟩
/- modulus -/
set_option maxHeartbeats 4000000 in
theorem modulus_at {X : Rx} {w : World} {P : Pos} {r : Out Nat} (h : Ps X w P) (hW : WdOk X.ws) (hr : GM X.ws P r) :
    Calls Tryd.prog 71 #[.pointer (some ⟨X.b, 0, none⟩)] w fun e w' => ∃ n : Nat, e = .returned (.int .i64 (n : Nat)) ∧ n ≤ 9223372036854775807 ∧ Ps X w' r.pos ∧ Bux X.b w w' ∧ r.is n := by
  have hbw := h.lt
  by_cases hk : P.kinds X.ws 1
  · obtain ⟨p, n, rfl, hd⟩ := isD_kinds hk
    obtain ⟨tx, by', ch, hw⟩ := hd_num hd
    have hlt := hd.lt
    have hnn := hW.num hd
    have FC : Hid (Calls Tryd.prog 32 #[.pointer (some ⟨X.b, 0, none⟩)] w fun e w' => e = .returned (.agg #[.int .i64 1, .string tx, .int .i64 (n : Nat), .int .i64 (by' : Nat), .int .i64 (ch : Nat)]) ∧ Below w.heap.size w w') := first_at h _ hw
    clear hw hk
    by_cases h0 : n = 0
    · have hr' : r = .bad 92 p := by
        cases hr with
        | none hn => exact absurd hd (hn _)
        | zero _ => rfl
        | ok h1 h2 => exact absurd (h1.one hd) (by omega)
      subst hr'
      subst h0
      clear hr hd
      go_enter Tryd.func71, Tryd.ntmps71
      go_wp2_with (first
        | (go_at_call 32; refine (FC.out).mono ?_; rintro e w1 ⟨rfl, hB1⟩; have h1 := h.keep hB1)
        | (go_at_call 21; refine (refuse_any (h1.alloc _) 92 (by decide)).mono ?_; rintro e w3 ⟨rfl, h3, hB3⟩))
      go_ret
      exact ⟨0, rfl, by decide, h3, (Bux.of (bta hB1 _)).trans hB3, is_bad⟩
    · have hr' : r = .ok n (p + 1) := by
        cases hr with
        | none hn => exact absurd hd (hn _)
        | zero hz => exact absurd (hz.one hd) (by omega)
        | ok h1 h2 => rw [h1.one hd]
      subst hr'
      have hz : ((n : Int) == 0) = false := by rw [beq_eq_false_iff_ne]; omega
      clear hr hd h0
      go_enter Tryd.func71, Tryd.ntmps71
      go_wp2_with (first
        | (go_at_call 32; refine (FC.out).mono ?_; rintro e w1 ⟨rfl, hB1⟩; have h1 := h.keep hB1; have hs1 := hB1.size; have hX2 := rb_new w1 #[.int .i64 1, .string tx, .int .i64 (n : Nat), .int .i64 (by' : Nat), .int .i64 (ch : Nat)] 76)
        | (go_at_call 34; refine (pass_at (h1.alloc _) hlt).mono ?_; rintro e w3 ⟨rfl, h3, hB3⟩; have hX3 := hX2.but hB3 (by omega); obtain ⟨x1, -⟩ := txcell hX3 2 _ rfl))
      go_ret
      exact ⟨n, rfl, hnn, h3, (Bux.of (bta hB1 _)).trans hB3, is_ok rfl⟩
  · obtain ⟨kd, nu, by', ch, tx, hkd, FC0⟩ := first_kd h
    have FC := mkHid FC0
    have hk' : ((kd : Int) == 1) = false := by rw [beq_eq_false_iff_ne]; have := mt (hkd 1 (by decide)).1 hk; omega
    have hr' : r.pos = P.ref 71 ∧ ∀ n, r.is n := by
      cases hr with
      | bad => exact ⟨rfl, fun _ => is_bad⟩
      | none _ => exact ⟨rfl, fun _ => is_bad⟩
      | zero hd => obtain ⟨y, h1, h2, _⟩ := hd; exact absurd ⟨y, h1, h2⟩ hk
      | ok hd _ => obtain ⟨y, h1, h2, _⟩ := hd; exact absurd ⟨y, h1, h2⟩ hk
    have HR := mkHid hr'
    clear FC0 hkd hk hr hr'
    go_enter Tryd.func71, Tryd.ntmps71
    go_wp2_with (first
      | (go_at_call 32; refine (FC.out).mono ?_; rintro e w1 ⟨rfl, hB1⟩; have h1 := h.keep hB1)
      | (go_at_call 21; refine (refuse_any (h1.alloc _) 71 (by decide)).mono ?_; rintro e w3 ⟨rfl, h3, hB3⟩))
    go_ret
    exact ⟨0, rfl, by decide, by rw [HR.out.1]; exact h3, (Bux.of (bta hB1 _)).trans hB3, HR.out.2 0⟩
end Go.Proofs.YtabfhdmcljdjhaaDoor.Gl
