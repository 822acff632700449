/- The landed reader: where it stands, and its small functions. -/
import Derived.Test.YtabfhdmcljdjhaaGreatDoorPcA
import Derived.Test.YtabfhdmcljdjhaaGreatDoorGlH
import Derived.BigQuiet
import Derived.Below
namespace Go.Proofs.YtabfhdmcljdjhaaGreatDoor.Gl
open Go.RowKit
set_option linter.unusedVariables false
set_option linter.unusedSimpArgs false

/-- what stands about a reader: the words of s in the world W, the reader's block -/
structure Rx where
  W : World
  s : ByteArray
  ws : List Wd
  ao : Option Addr
  n : Nat
  cap : Nat
  b : Nat
def pcB (s : ByteArray) (ws : List Wd) (q : Nat) : Nat := match ws[q]? with
  | some y => y.byte
  | none => s.size
def pcC (s : ByteArray) (ws : List Wd) (q : Nat) : Nat := match ws[q]? with
  | some y => cnt (s.extract 0 y.byte)
  | none => cnt s
abbrev rdC (v : Value) (e c y fb fc : Nat) : Array Value := #[v, .int .i64 (e : Nat), .int .i64 (c : Nat), .int .i64 (y : Nat), .int .i64 (fb : Nat), .int .i64 (fc : Nat)]
def PsAt (X : Rx) (w : World) : Pos → Prop
  | .at p => p ≤ X.n ∧ ∃ a c, (p < X.n → ∃ g off, X.ao = some ⟨g, off, none⟩ ∧ a = some ⟨g, off + p * 5, none⟩ ∧ X.n - p ≤ c ∧ c ≤ X.cap) ∧ Rb w X.b (rdC (.slice a (X.n - p) c) X.s.size (cnt X.s) 0 0 0) 77
  | .bad y q => y ≠ 0 ∧ Rb w X.b (rdC (.slice none 0 0) X.s.size (cnt X.s) y (pcB X.s X.ws q) (pcC X.s X.ws q)) 77
structure Ps (X : Rx) (w : World) (P : Pos) : Prop where
  words : TxW X.W X.s X.ws X.ao X.n X.cap
  new : X.W.heap.size ≤ X.b
  below : Below X.W.heap.size X.W w
  at' : PsAt X w P
theorem Ps.block {X : Rx} {w : World} {P : Pos} (h : Ps X w P) : ∃ vs, Rb w X.b vs 77 := by
  have := h.at'
  cases P with
  | «at» p => obtain ⟨_, a, c, _, hR⟩ := this; exact ⟨_, hR⟩
  | bad y q => exact ⟨_, this.2⟩
theorem Ps.lt {X : Rx} {w : World} {P : Pos} (h : Ps X w P) : X.b < w.heap.size := by
  obtain ⟨vs, hR⟩ := h.block
  exact (Array.getElem?_eq_some_iff.1 hR).1
theorem PsAt.same {X : Rx} {w w' : World} {P : Pos} (h : PsAt X w P) (hb : w'.heap[X.b]? = w.heap[X.b]?) : PsAt X w' P := by
  cases P with
  | «at» p => obtain ⟨hp, a, c, hac, hR⟩ := h; exact ⟨hp, a, c, hac, hb.trans hR⟩
  | bad y q => exact ⟨h.1, hb.trans h.2⟩
theorem Ps.keep {X : Rx} {w w' : World} {P : Pos} (h : Ps X w P) (hB : Below w.heap.size w w') : Ps X w' P :=
  ⟨h.words, h.new, h.below.trans (hB.mono h.below.size), h.at'.same (hB.block X.b h.lt)⟩
theorem Ps.other {X : Rx} {w : World} {P : Pos} (h : Ps X w P) {B : Nat} (hne : X.b ≠ B) (hB : X.W.heap.size ≤ B) (i : Nat) (v : Value) : Ps X (w.setCell ⟨B, i, none⟩ v) P :=
  ⟨h.words, h.new, h.below.setCell (p := ⟨B, i, none⟩) hB v, h.at'.same (Below.heap_setCell _ _ _ X.b (by simpa using hne))⟩
theorem Ps.drew {X : Rx} {w : World} {P : Pos} (h : Ps X w P) : Ps X w.drew P := ⟨h.words, h.new, h.below.drew, h.at'.same rfl⟩
theorem Ps.to {X : Rx} {w w' : World} {P P' : Pos} (h : Ps X w P) (hB : Bux X.b w w') (ht : PsAt X w' P') : Ps X w' P' :=
  ⟨h.words, h.new, h.below.trans (hB.below h.new h.below.size), ht⟩
/-- the word that comes next -/
def Pos.word (ws : List Wd) : Pos → Option Wd
  | .at p => ws[p]?
  | .bad _ _ => none
def hdW (s : ByteArray) : Option Wd → FW
  | some y => full s y
  | none => ⟨2, emp, 0, s.size, cnt s⟩
abbrev zW : Array Value := #[.int .i64 0, .string emp, .int .i64 0, .int .i64 0, .int .i64 0]
set_option maxHeartbeats 4000000 in
theorem first_end (b : Nat) (w : World) (a : Option Addr) (c sz ct : Nat) (hbw : b < w.heap.size) (t0 : w.cell? ⟨b, 0, none⟩ = some (.slice a 0 c)) (t1 : w.cell? ⟨b, 1, none⟩ = some (.int .i64 (sz : Nat))) (t2 : w.cell? ⟨b, 2, none⟩ = some (.int .i64 (ct : Nat))) :
    Calls Tryz.prog 53 #[.pointer (some ⟨b, 0, none⟩)] w fun e w' => e = .returned (.agg #[.int .i64 2, .string emp, .int .i64 0, .int .i64 (sz : Nat), .int .i64 (ct : Nat)]) ∧ Below w.heap.size w w' := by
  have hb1 := bal w (.cells zW 87)
  have u0 := (hb1.cell (p := ⟨b, 0, none⟩) hbw).trans t0
  have u1 := (hb1.cell (p := ⟨b, 1, none⟩) hbw).trans t1
  have u2 := (hb1.cell (p := ⟨b, 2, none⟩) hbw).trans t2
  clear t0 t1 t2 hb1
  go_enter Tryz.func53, Tryz.ntmps53
  go_wp2
  exact bodyPost_ret (v := .agg #[.int .i64 2, .string emp, .int .i64 0, .int .i64 (sz : Nat), .int .i64 (ct : Nat)]) (by simp [results, Tryz.results53, go_sem]) rfl ⟨rfl, bal w _⟩
set_option maxHeartbeats 4000000 in
theorem first_word (b : Nat) (w : World) (g off m c kd nu by' ch : Nat) (tx : ByteArray) (hbw : b < w.heap.size) (t0 : w.cell? ⟨b, 0, none⟩ = some (.slice (some ⟨g, off, none⟩) m c)) (hm : 0 < m) (hmc : m ≤ c) (hc : c ≤ 9223372036854775807) (hg : g < w.heap.size) (c0 : w.cell? ⟨g, off, none⟩ = some (.int .i64 (kd : Nat))) (c1 : w.cell? ⟨g, off + 1, none⟩ = some (.string tx)) (c2 : w.cell? ⟨g, off + 2, none⟩ = some (.int .i64 (nu : Nat))) (c3 : w.cell? ⟨g, off + 3, none⟩ = some (.int .i64 (by' : Nat))) (c4 : w.cell? ⟨g, off + 4, none⟩ = some (.int .i64 (ch : Nat))) :
    Calls Tryz.prog 53 #[.pointer (some ⟨b, 0, none⟩)] w fun e w' => e = .returned (.agg #[.int .i64 (kd : Nat), .string tx, .int .i64 (nu : Nat), .int .i64 (by' : Nat), .int .i64 (ch : Nat)]) ∧ Below w.heap.size w w' := by
  have hb1 := bal w (.cells zW 87)
  have u0 := (hb1.cell (p := ⟨b, 0, none⟩) hbw).trans t0
  have d0 := (hb1.cell (p := ⟨g, off, none⟩) hg).trans c0
  have d1 := (hb1.cell (p := ⟨g, off + 1, none⟩) hg).trans c1
  have d2 := (hb1.cell (p := ⟨g, off + 2, none⟩) hg).trans c2
  have d3 := (hb1.cell (p := ⟨g, off + 3, none⟩) hg).trans c3
  have d4 := (hb1.cell (p := ⟨g, off + 4, none⟩) hg).trans c4
  have hm0 : ¬ (m : Int) = 0 := by omega
  have hm1 : ((m : Int) == 0) = false := by rw [beq_eq_false_iff_ne]; exact hm0
  clear t0 c0 c1 c2 c3 c4 hb1
  go_enter Tryz.func53, Tryz.ntmps53
  go_wp2
  exact bodyPost_ret (v := .agg #[.int .i64 (kd : Nat), .string tx, .int .i64 (nu : Nat), .int .i64 (by' : Nat), .int .i64 (ch : Nat)]) (by simp [results, Tryz.results53, go_sem]) rfl ⟨rfl, bal w _⟩
theorem first_at {X : Rx} {w : World} {P : Pos} (h : Ps X w P) (x : FW) (hx : hdW X.s (P.word X.ws) = x) :
    Calls Tryz.prog 53 #[.pointer (some ⟨X.b, 0, none⟩)] w fun e w' => e = .returned (.agg #[.int .i64 x.kind, .string x.text, .int .i64 x.num, .int .i64 x.byte, .int .i64 x.char]) ∧ Below w.heap.size w w' := by
  have hlen := h.words.len
  have hcm := h.words.rd.lemax
  have ha := h.at'
  have hbw := h.lt
  cases P with
  | bad y q =>
    obtain ⟨_, hR⟩ := ha
    subst hx
    exact first_end X.b w none 0 X.s.size (cnt X.s) hbw (txcell hR 0 _ rfl).1 (txcell hR 1 _ rfl).1 (txcell hR 2 _ rfl).1
  | «at» p =>
    obtain ⟨hp, a, c, hac, hR⟩ := ha
    by_cases hlt : p < X.n
    · obtain ⟨g, off, hao, rfl, hc1, hc2⟩ := hac hlt
      obtain ⟨y, g', off', hy, hao', hg, c0, c1, c2, c3, c4⟩ := h.words.get h.below hlt
      rw [hao] at hao'
      cases hao'
      have hx' : full X.s y = x := by rw [← hx]; simp [Pos.word, hy, hdW]
      subst hx'
      exact first_word X.b w g (off + p * 5) (X.n - p) c _ _ _ _ _ hbw (txcell hR 0 _ rfl).1 (by omega) hc1 (by omega) (Nat.lt_of_lt_of_le hg h.below.size) c0 c1 c2 c3 c4
    · obtain rfl : p = X.n := by omega
      have hno : X.ws[X.n]? = none := List.getElem?_eq_none (by omega)
      have hx' : x = ⟨2, emp, 0, X.s.size, cnt X.s⟩ := by rw [← hx]; simp [Pos.word, hno, hdW]
      subst hx'
      have t0 := (txcell hR 0 _ rfl).1
      rw [Nat.sub_self] at t0
      exact first_end X.b w a c X.s.size (cnt X.s) hbw t0 (txcell hR 1 _ rfl).1 (txcell hR 2 _ rfl).1
set_option maxHeartbeats 4000000 in
theorem pass_at {X : Rx} {w : World} {p : Nat} (h : Ps X w (.at p)) (hp : p < X.ws.length) :
    Calls Tryz.prog 55 #[.pointer (some ⟨X.b, 0, none⟩)] w fun e w' => e = .returned (.tuple #[]) ∧ Ps X w' (.at (p + 1)) ∧ Bux X.b w w' := by
  have hlen := h.words.len
  have hcm := h.words.rd.lemax
  obtain ⟨_, a, c, hac, hR⟩ := h.at'
  obtain ⟨g, off, hao, rfl, hc1, hc2⟩ := hac (by omega)
  obtain ⟨t0, f0⟩ := txcell hR 0 _ rfl
  obtain ⟨m, hm⟩ : ∃ m, X.n - p = m := ⟨_, rfl⟩
  rw [hm] at t0 hc1
  have hm0 : 0 < m := by omega
  have fin : ∀ a' c', (p + 1 < X.n → a' = some ⟨g, off + p * 5 + 5, none⟩ ∧ m - 1 ≤ c' ∧ c' ≤ X.cap) → Ps X (w.setCell ⟨X.b, 0, none⟩ (.slice a' (m - 1) c')) (.at (p + 1)) ∧ Bux X.b w (w.setCell ⟨X.b, 0, none⟩ (.slice a' (m - 1) c')) := by
    intro a' c' hac'
    have hB : Bux X.b w (w.setCell ⟨X.b, 0, none⟩ (.slice a' (m - 1) c')) := (Bux.refl _ w).set 0 _
    refine ⟨h.to hB ⟨by omega, a', c', ?_, ?_⟩, hB⟩
    · intro hlt
      obtain ⟨e1, e2, e3⟩ := hac' hlt
      exact ⟨g, off, hao, by rw [e1]; congr 2; omega, by omega, e3⟩
    · have := tx_set hR 0 (.slice a' (m - 1) c')
      rw [show X.n - (p + 1) = m - 1 by omega]
      exact this
  have HF : Hid _ := fin
  clear fin
  obtain ⟨b, hb⟩ : ∃ b, X.b = b := ⟨_, rfl⟩
  obtain ⟨o, ho⟩ : ∃ o, off + p * 5 = o := ⟨_, rfl⟩
  rw [ho] at t0
  rw [hb] at t0 f0
  have hmn : Hid (p + 1 < X.n → ¬ c = 1) := fun hh => by omega
  have hcc : Hid (m - 1 ≤ c - 1 ∧ c - 1 ≤ X.cap) := ⟨by omega, by omega⟩
  rw [hb]
  clear hR hac h hm hlen
  go_enter Tryz.func55, Tryz.ntmps55
  go_wp2
  · go_end0
    have := HF.out (some ⟨g, o, none⟩) 0 (fun hh => absurd ‹c = 1› (hmn.out hh))
    rw [hb] at this
    exact ⟨rfl, this⟩
  · go_end0
    have := HF.out (some ⟨g, o + 5, none⟩) (c - 1) (fun hh => ⟨by rw [ho], hcc.out⟩)
    rw [hb] at this
    exact ⟨rfl, this⟩
end Go.Proofs.YtabfhdmcljdjhaaGreatDoor.Gl
/- A fact behind a name. -/
namespace Go.Proofs.YtabfhdmcljdjhaaGreatDoor.Gl
open Go Go.RowKit
theorem mkHid {p : Prop} (h : p) : Hid p := h
end Go.Proofs.YtabfhdmcljdjhaaGreatDoor.Gl
/- The landed reader: takes, needs, refuse; connect, combine. -/
namespace Go.Proofs.YtabfhdmcljdjhaaGreatDoor.Gl
open Go.RowKit
set_option linter.unusedVariables false
set_option linter.unusedSimpArgs false


theorem Ps.alloc {X : Rx} {w : World} {P : Pos} (h : Ps X w P) (o : Obj) : Ps X (w.alloc o) P := h.keep (bal w o)
theorem Ps.lt_n {X : Rx} {w : World} {p : Nat} {x : ByteArray} (h : Ps X w (.at p)) (hs : IsS X.ws p x) : p < X.ws.length := hs.lt
/-- the word that stands there, as it is read -/
theorem hd_sign {X : Rx} {p : Nat} {x : ByteArray} (h : IsS X.ws p x) : ∃ nu by' ch : Nat, hdW X.s ((Pos.at p).word X.ws) = ⟨2, x, nu, by', ch⟩ := by
  obtain ⟨y, hy, hk, rfl⟩ := h
  exact ⟨_, _, _, by simp [Pos.word, hy, hdW, full, hk]; exact ⟨rfl, rfl, rfl⟩⟩
theorem hd_not {X : Rx} {P : Pos} {x : ByteArray} (hx : x ≠ emp) (h : ¬ P.stands X.ws x) (hk : (hdW X.s (P.word X.ws)).kind = 2) : (hdW X.s (P.word X.ws)).text ≠ x := by
  intro e
  cases P with
  | bad y q => exact hx e.symm
  | «at» p =>
    cases hy : X.ws[p]? with
    | none => rw [Pos.word, hy] at e; exact hx e.symm
    | some y =>
      rw [Pos.word, hy] at e hk
      exact h ⟨y, hy, hk, e⟩
set_option maxHeartbeats 4000000 in
theorem takes_yes {X : Rx} {w : World} {p : Nat} {x : ByteArray} (h : Ps X w (.at p)) (hs : IsS X.ws p x) :
    Calls Tryz.prog 31 #[.pointer (some ⟨X.b, 0, none⟩), .string x] w fun e w' => e = .returned (.bool true) ∧ Ps X w' (.at (p + 1)) ∧ Bux X.b w w' := by
  obtain ⟨nu, by', ch, hw⟩ := hd_sign hs
  have hlt := hs.lt
  have FC : Hid (Calls Tryz.prog 53 #[.pointer (some ⟨X.b, 0, none⟩)] w fun e w' => e = .returned (.agg #[.int .i64 2, .string x, .int .i64 (nu : Nat), .int .i64 (by' : Nat), .int .i64 (ch : Nat)]) ∧ Below w.heap.size w w') := first_at h _ hw
  have hq : (x.toList == x.toList) = true := (eqS_iff _ _).2 rfl
  clear hw
  go_enter Tryz.func31, Tryz.ntmps31
  go_wp2_with (first
    | (go_at_call 53; refine (FC.out).mono ?_; rintro e w1 ⟨rfl, hB1⟩; have h1 := h.keep hB1)
    | (go_at_call 55; refine (pass_at (h1.alloc _) hlt).mono ?_; rintro e w3 ⟨rfl, h3, hB3⟩))
  go_ret
  exact ⟨rfl, h3, (Bux.of (bta hB1 _)).trans hB3⟩
set_option maxHeartbeats 4000000 in
theorem takes_no {X : Rx} {w : World} {P : Pos} {x : ByteArray} (h : Ps X w P) (hx : x ≠ emp) (hs : ¬ P.stands X.ws x) :
    Calls Tryz.prog 31 #[.pointer (some ⟨X.b, 0, none⟩), .string x] w fun e w' => e = .returned (.bool false) ∧ Ps X w' P ∧ Below w.heap.size w w' := by
  have hno := hd_not (X := X) hx hs
  obtain ⟨⟨kd, tx, nu, by', ch⟩, hw⟩ : ∃ y, hdW X.s (P.word X.ws) = y := ⟨_, rfl⟩
  rw [hw] at hno
  have FC : Hid (Calls Tryz.prog 53 #[.pointer (some ⟨X.b, 0, none⟩)] w fun e w' => e = .returned (.agg #[.int .i64 (kd : Nat), .string tx, .int .i64 (nu : Nat), .int .i64 (by' : Nat), .int .i64 (ch : Nat)]) ∧ Below w.heap.size w w') := first_at h _ hw
  clear hw hs
  by_cases hk : kd = 2
  · have hq : (tx.toList == x.toList) = false := by
      cases hq : (tx.toList == x.toList) with
      | false => rfl
      | true => exact absurd ((eqS_iff _ _).1 hq) (hno hk)
    subst hk
    clear hno
    go_enter Tryz.func31, Tryz.ntmps31
    go_wp2_with (go_at_call 53; refine (FC.out).mono ?_; rintro e w1 ⟨rfl, hB1⟩; have h1 := h.keep hB1)
    go_ret
    exact ⟨rfl, h1.alloc _, bta hB1 _⟩
  · have hk' : ((kd : Int) == 2) = false := by rw [beq_eq_false_iff_ne]; omega
    clear hno
    go_enter Tryz.func31, Tryz.ntmps31
    go_wp2_with (go_at_call 53; refine (FC.out).mono ?_; rintro e w1 ⟨rfl, hB1⟩; have h1 := h.keep hB1)
    go_ret
    exact ⟨rfl, h1.alloc _, bta hB1 _⟩
/- refuse -/
theorem hd_place {X : Rx} (p : Nat) : ∃ kd nu : Nat, ∃ tx, hdW X.s ((Pos.at p).word X.ws) = ⟨kd, tx, nu, pcB X.s X.ws p, pcC X.s X.ws p⟩ := by
  simp only [pcB, pcC, Pos.word]
  cases X.ws[p]? with
  | none => exact ⟨2, 0, emp, rfl⟩
  | some y => exact ⟨y.kind, y.num, y.text, rfl⟩
set_option maxHeartbeats 4000000 in
theorem refuse_bad {X : Rx} {w : World} {y q : Nat} (h : Ps X w (.bad y q)) (y' : Nat) :
    Calls Tryz.prog 29 #[.pointer (some ⟨X.b, 0, none⟩), .int .i64 (y' : Nat)] w fun e w' => e = .returned (.tuple #[]) ∧ Ps X w' (.bad y q) ∧ Bux X.b w w' := by
  obtain ⟨hy, hR⟩ := h.at'
  obtain ⟨t0, f0⟩ := txcell hR 0 _ rfl
  obtain ⟨t3, -⟩ := txcell hR 3 _ rfl
  have hy' : ((y : Int) == 0) = false := by rw [beq_eq_false_iff_ne]; omega
  have hB : Bux X.b w (w.setCell ⟨X.b, 0, none⟩ (.slice none 0 0)) := (Bux.refl _ w).set 0 _
  have HF : Hid (Ps X (w.setCell ⟨X.b, 0, none⟩ (.slice none 0 0)) (.bad y q) ∧ Bux X.b w (w.setCell ⟨X.b, 0, none⟩ (.slice none 0 0))) := ⟨h.to hB ⟨hy, tx_set hR 0 _⟩, hB⟩
  obtain ⟨b, hb⟩ : ∃ b, X.b = b := ⟨_, rfl⟩
  rw [hb] at t0 f0 t3
  rw [hb]
  clear hR h hB
  go_enter Tryz.func29, Tryz.ntmps29
  go_wp2
  go_end0
  have := HF.out
  rw [hb] at this
  exact ⟨rfl, this⟩
theorem field_place (kd nu by' ch : Nat) (tx : ByteArray) (w : World) : (Instr.field 87 (.agg #[.int .i64 (kd : Nat), .string tx, .int .i64 (nu : Nat), .int .i64 (by' : Nat), .int .i64 (ch : Nat)]) 3).run Tryz.prog w = .ok (.agg #[.int .i64 (by' : Nat), .int .i64 (ch : Nat)]) w := by kernel_rfl
set_option maxHeartbeats 4000000 in
theorem refuse_at {X : Rx} {w : World} {p : Nat} (h : Ps X w (.at p)) (y' : Nat) (hy0 : y' ≠ 0) :
    Calls Tryz.prog 29 #[.pointer (some ⟨X.b, 0, none⟩), .int .i64 (y' : Nat)] w fun e w' => e = .returned (.tuple #[]) ∧ Ps X w' (.bad y' p) ∧ Bux X.b w w' := by
  obtain ⟨hp, a, c, hac, hR⟩ := h.at'
  obtain ⟨kd, nu, tx, hw⟩ := hd_place (X := X) p
  have FC : Hid (Calls Tryz.prog 53 #[.pointer (some ⟨X.b, 0, none⟩)] w fun e w' => e = .returned (.agg #[.int .i64 (kd : Nat), .string tx, .int .i64 (nu : Nat), .int .i64 (pcB X.s X.ws p : Nat), .int .i64 (pcC X.s X.ws p : Nat)]) ∧ Below w.heap.size w w') := first_at h _ hw
  obtain ⟨t3, f3⟩ := txcell hR 3 _ rfl
  have HF : Hid (∀ w1, Below w.heap.size w w1 → (∀ i, i < 6 → (∃ v, w1.cell? ⟨X.b, i, none⟩ = some v) ∧ w1.frozen? ⟨X.b, i, none⟩ = false) ∧ Ps X ((((w1.setCell ⟨X.b, 3, none⟩ (.int .i64 (y' : Nat))).setCell ⟨X.b, 4, none⟩ (.int .i64 (pcB X.s X.ws p : Nat))).setCell ⟨X.b, 5, none⟩ (.int .i64 (pcC X.s X.ws p : Nat))).setCell ⟨X.b, 0, none⟩ (.slice none 0 0)) (.bad y' p) ∧ Bux X.b w ((((w1.setCell ⟨X.b, 3, none⟩ (.int .i64 (y' : Nat))).setCell ⟨X.b, 4, none⟩ (.int .i64 (pcB X.s X.ws p : Nat))).setCell ⟨X.b, 5, none⟩ (.int .i64 (pcC X.s X.ws p : Nat))).setCell ⟨X.b, 0, none⟩ (.slice none 0 0))) := fun w1 hB1 => by
    have h1 := h.keep hB1
    have hR1 := hR.keep hB1
    have hB2 : Bux X.b w1 ((((w1.setCell ⟨X.b, 3, none⟩ (.int .i64 (y' : Nat))).setCell ⟨X.b, 4, none⟩ (.int .i64 (pcB X.s X.ws p : Nat))).setCell ⟨X.b, 5, none⟩ (.int .i64 (pcC X.s X.ws p : Nat))).setCell ⟨X.b, 0, none⟩ (.slice none 0 0)) := ((((Bux.refl _ w1).set 3 _).set 4 _).set 5 _).set 0 _
    refine ⟨fun i hi => ?_, h1.to hB2 ⟨hy0, tx_set (tx_set (tx_set (tx_set hR1 3 _) 4 _) 5 _) 0 _⟩, (Bux.of hB1).trans hB2⟩
    rcases (show i = 0 ∨ i = 1 ∨ i = 2 ∨ i = 3 ∨ i = 4 ∨ i = 5 by omega) with rfl | rfl | rfl | rfl | rfl | rfl
    · exact ⟨⟨_, (txcell hR1 0 _ rfl).1⟩, (txcell hR1 0 _ rfl).2⟩
    · exact ⟨⟨_, (txcell hR1 1 _ rfl).1⟩, (txcell hR1 1 _ rfl).2⟩
    · exact ⟨⟨_, (txcell hR1 2 _ rfl).1⟩, (txcell hR1 2 _ rfl).2⟩
    · exact ⟨⟨_, (txcell hR1 3 _ rfl).1⟩, (txcell hR1 3 _ rfl).2⟩
    · exact ⟨⟨_, (txcell hR1 4 _ rfl).1⟩, (txcell hR1 4 _ rfl).2⟩
    · exact ⟨⟨_, (txcell hR1 5 _ rfl).1⟩, (txcell hR1 5 _ rfl).2⟩
  obtain ⟨b, hb⟩ : ∃ b, X.b = b := ⟨_, rfl⟩
  obtain ⟨pb, hpb⟩ : ∃ b, pcB X.s X.ws p = b := ⟨_, rfl⟩
  obtain ⟨pc, hpc⟩ : ∃ b, pcC X.s X.ws p = b := ⟨_, rfl⟩
  rw [hb, hpb, hpc] at HF FC
  rw [hb] at t3
  rw [hb]
  clear hR h hac hw hpb hpc
  have hfd := field_place kd nu pb pc tx
  go_enter Tryz.func29, Tryz.ntmps29
  go_wp2_with (go_at_call 53; refine (FC.out).mono ?_; rintro e w1 ⟨rfl, hB1⟩; have HG := HF.out w1 hB1; obtain ⟨hfz, HH⟩ := HG; obtain ⟨⟨v3, e3⟩, q3⟩ := hfz 3 (by omega); obtain ⟨⟨v4, e4⟩, q4⟩ := hfz 4 (by omega); obtain ⟨⟨v5, e5⟩, q5⟩ := hfz 5 (by omega); obtain ⟨⟨v0, e0⟩, q0⟩ := hfz 0 (by omega); have HK := mkHid HH; clear HH hfz)
  go_end0
  exact ⟨rfl, HK.out⟩
theorem refuse_any {X : Rx} {w : World} {P : Pos} (h : Ps X w P) (y' : Nat) (hy0 : y' ≠ 0) :
    Calls Tryz.prog 29 #[.pointer (some ⟨X.b, 0, none⟩), .int .i64 (y' : Nat)] w fun e w' => e = .returned (.tuple #[]) ∧ Ps X w' (P.ref y') ∧ Bux X.b w w' := by
  cases P with
  | bad y q => exact refuse_bad h y'
  | «at» p => exact refuse_at h y' hy0
/- needs -/
set_option maxHeartbeats 4000000 in
theorem needs_at {X : Rx} {w : World} {P P' : Pos} {x : ByteArray} (h : Ps X w P) (hx : x ≠ emp) (hn : P.need X.ws x P') :
    Calls Tryz.prog 94 #[.pointer (some ⟨X.b, 0, none⟩), .string x] w fun e w' => e = .returned (.tuple #[]) ∧ Ps X w' P' ∧ Bux X.b w w' := by
  rcases hn with ⟨p, rfl, hs, rfl⟩ | ⟨hs, rfl⟩
  · have TC := mkHid (takes_yes h hs)
    go_enter Tryz.func94, Tryz.ntmps94
    go_wp2_with (go_at_call 31; refine (TC.out).mono ?_; rintro e w1 ⟨rfl, h1, hB1⟩)
    go_end0
    exact ⟨rfl, h1, hB1⟩
  · have TC := mkHid (takes_no h hx hs)
    go_enter Tryz.func94, Tryz.ntmps94
    go_wp2_with (first
      | (go_at_call 31; refine (TC.out).mono ?_; rintro e w1 ⟨rfl, h1, hB1⟩)
      | (go_at_call 29; refine (refuse_any h1 71 (by decide)).mono ?_; rintro e w2 ⟨rfl, h2, hB2⟩))
    go_end0
    exact ⟨rfl, h2, (Bux.of hB1).trans hB2⟩
/- connect, combine -/
set_option maxHeartbeats 4000000 in
theorem connect_at (o : Int) (a : Option Addr) (n c : Nat) (w : World) :
    Calls Tryz.prog 32 #[.int .i64 o, .slice a n c] w fun e w' => e = .returned (.agg #[.int .i64 o, .string emp, .int .i64 0, .slice none 0 0, .slice a n c]) ∧ Below w.heap.size w w' := by
  go_enter Tryz.func32, Tryz.ntmps32
  go_wp2
  exact bodyPost_ret (v := .agg #[.int .i64 o, .string emp, .int .i64 0, .slice none 0 0, .slice a n c]) (by simp [results, Tryz.results32, go_sem]) rfl ⟨rfl, bal w _⟩
set_option maxHeartbeats 4000000 in
theorem combine_at (o : Int) (a : Option Addr) (n c : Nat) (w : World) :
    Calls Tryz.prog 45 #[.int .i64 o, .slice a n c] w fun e w' => e = .returned (.agg #[.int .i64 o, .int .i64 0, .string emp, .slice a n c]) ∧ Below w.heap.size w w' := by
  go_enter Tryz.func45, Tryz.ntmps45
  go_wp2
  exact bodyPost_ret (v := .agg #[.int .i64 o, .int .i64 0, .string emp, .slice a n c]) (by simp [results, Tryz.results45, go_sem]) rfl ⟨rfl, bal w _⟩
end Go.Proofs.YtabfhdmcljdjhaaGreatDoor.Gl
