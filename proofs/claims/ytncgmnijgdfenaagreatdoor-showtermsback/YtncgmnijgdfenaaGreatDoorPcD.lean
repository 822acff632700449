/- The landed reader: where it stands, and its small functions. -/
import Derived.Test.YtncgmnijgdfenaaGreatDoorPcA
import Derived.Test.YtncgmnijgdfenaaGreatDoorGlH
import Derived.BigQuiet
import Derived.Below
import Derived.Deep.RegionWith
namespace Go.Proofs.YtncgmnijgdfenaaGreatDoor.Gl
open Go.RowKit
set_option linter.unusedVariables false
set_option linter.unusedSimpArgs false

/-- what stands about a reader: the words of s in the world W, the reader's block -/
structure Rx where
  W : World
  s : ByteArray
  ws : List Wd
  ao : Option Addr
  n : Nat
  cap : Nat
  b : Nat
def pcB (s : ByteArray) (ws : List Wd) (q : Nat) : Nat := match ws[q]? with
  | some y => y.byte
  | none => s.size
def pcC (s : ByteArray) (ws : List Wd) (q : Nat) : Nat := match ws[q]? with
  | some y => cnt (s.extract 0 y.byte)
  | none => cnt s
abbrev rdC (v : Value) (e c y fb fc : Nat) : Array Value := #[v, .int .i64 (e : Nat), .int .i64 (c : Nat), .int .i64 (y : Nat), .int .i64 (fb : Nat), .int .i64 (fc : Nat)]
def PsAt (X : Rx) (w : World) : Pos → Prop
  | .at p => p ≤ X.n ∧ ∃ a c, (p < X.n → ∃ g off, X.ao = some ⟨g, off, none⟩ ∧ a = some ⟨g, off + p * 5, none⟩ ∧ X.n - p ≤ c ∧ c ≤ X.cap) ∧ Rb w X.b (rdC (.slice a (X.n - p) c) X.s.size (cnt X.s) 0 0 0) 89
  | .bad y q => y ≠ 0 ∧ Rb w X.b (rdC (.slice none 0 0) X.s.size (cnt X.s) y (pcB X.s X.ws q) (pcC X.s X.ws q)) 89
structure Ps (X : Rx) (w : World) (P : Pos) : Prop where
  words : TxW X.W X.s X.ws X.ao X.n X.cap
  new : X.W.heap.size ≤ X.b
  below : Below X.W.heap.size X.W w
  at' : PsAt X w P
theorem Ps.block {X : Rx} {w : World} {P : Pos} (h : Ps X w P) : ∃ vs, Rb w X.b vs 89 := by
  have := h.at'
  cases P with
  | «at» p => obtain ⟨_, a, c, _, hR⟩ := this; exact ⟨_, hR⟩
  | bad y q => exact ⟨_, this.2⟩
theorem Ps.lt {X : Rx} {w : World} {P : Pos} (h : Ps X w P) : X.b < w.heap.size := by
  obtain ⟨vs, hR⟩ := h.block
  exact (Array.getElem?_eq_some_iff.1 hR).1
theorem PsAt.same {X : Rx} {w w' : World} {P : Pos} (h : PsAt X w P) (hb : w'.heap[X.b]? = w.heap[X.b]?) : PsAt X w' P := by
  cases P with
  | «at» p => obtain ⟨hp, a, c, hac, hR⟩ := h; exact ⟨hp, a, c, hac, hb.trans hR⟩
  | bad y q => exact ⟨h.1, hb.trans h.2⟩
theorem Ps.keep {X : Rx} {w w' : World} {P : Pos} (h : Ps X w P) (hB : Below w.heap.size w w') : Ps X w' P :=
  ⟨h.words, h.new, h.below.trans (hB.mono h.below.size), h.at'.same (hB.block X.b h.lt)⟩
theorem Ps.other {X : Rx} {w : World} {P : Pos} (h : Ps X w P) {B : Nat} (hne : X.b ≠ B) (hB : X.W.heap.size ≤ B) (i : Nat) (v : Value) : Ps X (w.setCell ⟨B, i, none⟩ v) P :=
  ⟨h.words, h.new, h.below.setCell (p := ⟨B, i, none⟩) hB v, h.at'.same (Below.heap_setCell _ _ _ X.b (by simpa using hne))⟩
theorem Ps.drew {X : Rx} {w : World} {P : Pos} (h : Ps X w P) : Ps X w.drew P := ⟨h.words, h.new, h.below.drew, h.at'.same rfl⟩
theorem Ps.to {X : Rx} {w w' : World} {P P' : Pos} (h : Ps X w P) (hB : Bux X.b w w') (ht : PsAt X w' P') : Ps X w' P' :=
  ⟨h.words, h.new, h.below.trans (hB.below h.new h.below.size), ht⟩
/-- the word that comes next -/
def Pos.word (ws : List Wd) : Pos → Option Wd
  | .at p => ws[p]?
  | .bad _ _ => none
def hdW (s : ByteArray) : Option Wd → FW
  | some y => full s y
  | none => ⟨2, emp, 0, s.size, cnt s⟩
abbrev zW : Array Value := #[.int .i64 0, .string emp, .int .i64 0, .int .i64 0, .int .i64 0]
set_option maxHeartbeats 4000000 in
theorem first_end (b : Nat) (w : World) (a : Option Addr) (c sz ct : Nat) (hbw : b < w.heap.size) (t0 : w.cell? ⟨b, 0, none⟩ = some (.slice a 0 c)) (t1 : w.cell? ⟨b, 1, none⟩ = some (.int .i64 (sz : Nat))) (t2 : w.cell? ⟨b, 2, none⟩ = some (.int .i64 (ct : Nat))) :
    Calls Tryz.prog 56 #[.pointer (some ⟨b, 0, none⟩)] w fun e w' => e = .returned (.agg #[.int .i64 2, .string emp, .int .i64 0, .int .i64 (sz : Nat), .int .i64 (ct : Nat)]) ∧ Below w.heap.size w w' := by
  have hb1 := bal w (.cells zW 116)
  have u0 := (hb1.cell (p := ⟨b, 0, none⟩) hbw).trans t0
  have u1 := (hb1.cell (p := ⟨b, 1, none⟩) hbw).trans t1
  have u2 := (hb1.cell (p := ⟨b, 2, none⟩) hbw).trans t2
  clear t0 t1 t2 hb1
  go_enter Tryz.func56, Tryz.ntmps56
  go_wp2
  exact bodyPost_ret (v := .agg #[.int .i64 2, .string emp, .int .i64 0, .int .i64 (sz : Nat), .int .i64 (ct : Nat)]) (by simp [results, Tryz.results56, go_sem]) rfl ⟨rfl, bal w _⟩
set_option maxHeartbeats 4000000 in
theorem first_word (b : Nat) (w : World) (g off m c kd nu by' ch : Nat) (tx : ByteArray) (hbw : b < w.heap.size) (t0 : w.cell? ⟨b, 0, none⟩ = some (.slice (some ⟨g, off, none⟩) m c)) (hm : 0 < m) (hmc : m ≤ c) (hc : c ≤ 9223372036854775807) (hg : g < w.heap.size) (c0 : w.cell? ⟨g, off, none⟩ = some (.int .i64 (kd : Nat))) (c1 : w.cell? ⟨g, off + 1, none⟩ = some (.string tx)) (c2 : w.cell? ⟨g, off + 2, none⟩ = some (.int .i64 (nu : Nat))) (c3 : w.cell? ⟨g, off + 3, none⟩ = some (.int .i64 (by' : Nat))) (c4 : w.cell? ⟨g, off + 4, none⟩ = some (.int .i64 (ch : Nat))) :
    Calls Tryz.prog 56 #[.pointer (some ⟨b, 0, none⟩)] w fun e w' => e = .returned (.agg #[.int .i64 (kd : Nat), .string tx, .int .i64 (nu : Nat), .int .i64 (by' : Nat), .int .i64 (ch : Nat)]) ∧ Below w.heap.size w w' := by
  have hb1 := bal w (.cells zW 116)
  have u0 := (hb1.cell (p := ⟨b, 0, none⟩) hbw).trans t0
  have d0 := (hb1.cell (p := ⟨g, off, none⟩) hg).trans c0
  have d1 := (hb1.cell (p := ⟨g, off + 1, none⟩) hg).trans c1
  have d2 := (hb1.cell (p := ⟨g, off + 2, none⟩) hg).trans c2
  have d3 := (hb1.cell (p := ⟨g, off + 3, none⟩) hg).trans c3
  have d4 := (hb1.cell (p := ⟨g, off + 4, none⟩) hg).trans c4
  have hm0 : ¬ (m : Int) = 0 := by omega
  have hm1 : ((m : Int) == 0) = false := by rw [beq_eq_false_iff_ne]; exact hm0
  clear t0 c0 c1 c2 c3 c4 hb1
  go_enter Tryz.func56, Tryz.ntmps56
  go_wp2
  exact bodyPost_ret (v := .agg #[.int .i64 (kd : Nat), .string tx, .int .i64 (nu : Nat), .int .i64 (by' : Nat), .int .i64 (ch : Nat)]) (by simp [results, Tryz.results56, go_sem]) rfl ⟨rfl, bal w _⟩
theorem first_at {X : Rx} {w : World} {P : Pos} (h : Ps X w P) (x : FW) (hx : hdW X.s (P.word X.ws) = x) :
    Calls Tryz.prog 56 #[.pointer (some ⟨X.b, 0, none⟩)] w fun e w' => e = .returned (.agg #[.int .i64 x.kind, .string x.text, .int .i64 x.num, .int .i64 x.byte, .int .i64 x.char]) ∧ Below w.heap.size w w' := by
  have hlen := h.words.len
  have hcm := h.words.rd.lemax
  have ha := h.at'
  have hbw := h.lt
  cases P with
  | bad y q =>
    obtain ⟨_, hR⟩ := ha
    subst hx
    exact first_end X.b w none 0 X.s.size (cnt X.s) hbw (txcell hR 0 _ rfl).1 (txcell hR 1 _ rfl).1 (txcell hR 2 _ rfl).1
  | «at» p =>
    obtain ⟨hp, a, c, hac, hR⟩ := ha
    by_cases hlt : p < X.n
    · obtain ⟨g, off, hao, rfl, hc1, hc2⟩ := hac hlt
      obtain ⟨y, g', off', hy, hao', hg, c0, c1, c2, c3, c4⟩ := h.words.get h.below hlt
      rw [hao] at hao'
      cases hao'
      have hx' : full X.s y = x := by rw [← hx]; simp [Pos.word, hy, hdW]
      subst hx'
      exact first_word X.b w g (off + p * 5) (X.n - p) c _ _ _ _ _ hbw (txcell hR 0 _ rfl).1 (by omega) hc1 (by omega) (Nat.lt_of_lt_of_le hg h.below.size) c0 c1 c2 c3 c4
    · obtain rfl : p = X.n := by omega
      have hno : X.ws[X.n]? = none := List.getElem?_eq_none (by omega)
      have hx' : x = ⟨2, emp, 0, X.s.size, cnt X.s⟩ := by rw [← hx]; simp [Pos.word, hno, hdW]
      subst hx'
      have t0 := (txcell hR 0 _ rfl).1
      rw [Nat.sub_self] at t0
      exact first_end X.b w a c X.s.size (cnt X.s) hbw t0 (txcell hR 1 _ rfl).1 (txcell hR 2 _ rfl).1
set_option maxHeartbeats 4000000 in
theorem pass_at {X : Rx} {w : World} {p : Nat} (h : Ps X w (.at p)) (hp : p < X.ws.length) :
    Calls Tryz.prog 58 #[.pointer (some ⟨X.b, 0, none⟩)] w fun e w' => e = .returned (.tuple #[]) ∧ Ps X w' (.at (p + 1)) ∧ Bux X.b w w' := by
  have hlen := h.words.len
  have hcm := h.words.rd.lemax
  obtain ⟨_, a, c, hac, hR⟩ := h.at'
  obtain ⟨g, off, hao, rfl, hc1, hc2⟩ := hac (by omega)
  obtain ⟨t0, f0⟩ := txcell hR 0 _ rfl
  obtain ⟨m, hm⟩ : ∃ m, X.n - p = m := ⟨_, rfl⟩
  rw [hm] at t0 hc1
  have hm0 : 0 < m := by omega
  have fin : ∀ a' c', (p + 1 < X.n → a' = some ⟨g, off + p * 5 + 5, none⟩ ∧ m - 1 ≤ c' ∧ c' ≤ X.cap) → Ps X (w.setCell ⟨X.b, 0, none⟩ (.slice a' (m - 1) c')) (.at (p + 1)) ∧ Bux X.b w (w.setCell ⟨X.b, 0, none⟩ (.slice a' (m - 1) c')) := by
    intro a' c' hac'
    have hB : Bux X.b w (w.setCell ⟨X.b, 0, none⟩ (.slice a' (m - 1) c')) := (Bux.refl _ w).set 0 _
    refine ⟨h.to hB ⟨by omega, a', c', ?_, ?_⟩, hB⟩
    · intro hlt
      obtain ⟨e1, e2, e3⟩ := hac' hlt
      exact ⟨g, off, hao, by rw [e1]; congr 2; omega, by omega, e3⟩
    · have := tx_set hR 0 (.slice a' (m - 1) c')
      rw [show X.n - (p + 1) = m - 1 by omega]
      exact this
  have HF : Hid _ := fin
  clear fin
  obtain ⟨b, hb⟩ : ∃ b, X.b = b := ⟨_, rfl⟩
  obtain ⟨o, ho⟩ : ∃ o, off + p * 5 = o := ⟨_, rfl⟩
  rw [ho] at t0
  rw [hb] at t0 f0
  have hmn : Hid (p + 1 < X.n → ¬ c = 1) := fun hh => by omega
  have hcc : Hid (m - 1 ≤ c - 1 ∧ c - 1 ≤ X.cap) := ⟨by omega, by omega⟩
  rw [hb]
  clear hR hac h hm hlen
  go_enter Tryz.func58, Tryz.ntmps58
  go_wp2
  · go_end0
    have := HF.out (some ⟨g, o, none⟩) 0 (fun hh => absurd ‹c = 1› (hmn.out hh))
    rw [hb] at this
    exact ⟨rfl, this⟩
  · go_end0
    have := HF.out (some ⟨g, o + 5, none⟩) (c - 1) (fun hh => ⟨by rw [ho], hcc.out⟩)
    rw [hb] at this
    exact ⟨rfl, this⟩
end Go.Proofs.YtncgmnijgdfenaaGreatDoor.Gl
/- A fact behind a name. -/
namespace Go.Proofs.YtncgmnijgdfenaaGreatDoor.Gl
open Go Go.RowKit
theorem mkHid {p : Prop} (h : p) : Hid p := h
end Go.Proofs.YtncgmnijgdfenaaGreatDoor.Gl
/- The landed reader: takes, needs, refuse; connect, combine. -/
namespace Go.Proofs.YtncgmnijgdfenaaGreatDoor.Gl
open Go.RowKit
set_option linter.unusedVariables false
set_option linter.unusedSimpArgs false


theorem Ps.alloc {X : Rx} {w : World} {P : Pos} (h : Ps X w P) (o : Obj) : Ps X (w.alloc o) P := h.keep (bal w o)
theorem Ps.lt_n {X : Rx} {w : World} {p : Nat} {x : ByteArray} (h : Ps X w (.at p)) (hs : IsS X.ws p x) : p < X.ws.length := hs.lt
/-- the word that stands there, as it is read -/
theorem hd_sign {X : Rx} {p : Nat} {x : ByteArray} (h : IsS X.ws p x) : ∃ nu by' ch : Nat, hdW X.s ((Pos.at p).word X.ws) = ⟨2, x, nu, by', ch⟩ := by
  obtain ⟨y, hy, hk, rfl⟩ := h
  exact ⟨_, _, _, by simp [Pos.word, hy, hdW, full, hk]; exact ⟨rfl, rfl, rfl⟩⟩
theorem hd_not {X : Rx} {P : Pos} {x : ByteArray} (hx : x ≠ emp) (h : ¬ P.stands X.ws x) (hk : (hdW X.s (P.word X.ws)).kind = 2) : (hdW X.s (P.word X.ws)).text ≠ x := by
  intro e
  cases P with
  | bad y q => exact hx e.symm
  | «at» p =>
    cases hy : X.ws[p]? with
    | none => rw [Pos.word, hy] at e; exact hx e.symm
    | some y =>
      rw [Pos.word, hy] at e hk
      exact h ⟨y, hy, hk, e⟩
set_option maxHeartbeats 4000000 in
theorem takes_yes {X : Rx} {w : World} {p : Nat} {x : ByteArray} (h : Ps X w (.at p)) (hs : IsS X.ws p x) :
    Calls Tryz.prog 37 #[.pointer (some ⟨X.b, 0, none⟩), .string x] w fun e w' => e = .returned (.bool true) ∧ Ps X w' (.at (p + 1)) ∧ Bux X.b w w' := by
  obtain ⟨nu, by', ch, hw⟩ := hd_sign hs
  have hlt := hs.lt
  have FC : Hid (Calls Tryz.prog 56 #[.pointer (some ⟨X.b, 0, none⟩)] w fun e w' => e = .returned (.agg #[.int .i64 2, .string x, .int .i64 (nu : Nat), .int .i64 (by' : Nat), .int .i64 (ch : Nat)]) ∧ Below w.heap.size w w') := first_at h _ hw
  have hq : (x.toList == x.toList) = true := (eqS_iff _ _).2 rfl
  clear hw
  go_enter Tryz.func37, Tryz.ntmps37
  go_wp2_with (first
    | (go_at_call 56; refine (FC.out).mono ?_; rintro e w1 ⟨rfl, hB1⟩; have h1 := h.keep hB1)
    | (go_at_call 58; refine (pass_at (h1.alloc _) hlt).mono ?_; rintro e w3 ⟨rfl, h3, hB3⟩))
  go_ret
  exact ⟨rfl, h3, (Bux.of (bta hB1 _)).trans hB3⟩
set_option maxHeartbeats 4000000 in
theorem takes_no {X : Rx} {w : World} {P : Pos} {x : ByteArray} (h : Ps X w P) (hx : x ≠ emp) (hs : ¬ P.stands X.ws x) :
    Calls Tryz.prog 37 #[.pointer (some ⟨X.b, 0, none⟩), .string x] w fun e w' => e = .returned (.bool false) ∧ Ps X w' P ∧ Below w.heap.size w w' := by
  have hno := hd_not (X := X) hx hs
  obtain ⟨⟨kd, tx, nu, by', ch⟩, hw⟩ : ∃ y, hdW X.s (P.word X.ws) = y := ⟨_, rfl⟩
  rw [hw] at hno
  have FC : Hid (Calls Tryz.prog 56 #[.pointer (some ⟨X.b, 0, none⟩)] w fun e w' => e = .returned (.agg #[.int .i64 (kd : Nat), .string tx, .int .i64 (nu : Nat), .int .i64 (by' : Nat), .int .i64 (ch : Nat)]) ∧ Below w.heap.size w w') := first_at h _ hw
  clear hw hs
  by_cases hk : kd = 2
  · have hq : (tx.toList == x.toList) = false := by
      cases hq : (tx.toList == x.toList) with
      | false => rfl
      | true => exact absurd ((eqS_iff _ _).1 hq) (hno hk)
    subst hk
    clear hno
    go_enter Tryz.func37, Tryz.ntmps37
    go_wp2_with (go_at_call 56; refine (FC.out).mono ?_; rintro e w1 ⟨rfl, hB1⟩; have h1 := h.keep hB1)
    go_ret
    exact ⟨rfl, h1.alloc _, bta hB1 _⟩
  · have hk' : ((kd : Int) == 2) = false := by rw [beq_eq_false_iff_ne]; omega
    clear hno
    go_enter Tryz.func37, Tryz.ntmps37
    go_wp2_with (go_at_call 56; refine (FC.out).mono ?_; rintro e w1 ⟨rfl, hB1⟩; have h1 := h.keep hB1)
    go_ret
    exact ⟨rfl, h1.alloc _, bta hB1 _⟩
/- refuse -/
theorem hd_place {X : Rx} (p : Nat) : ∃ kd nu : Nat, ∃ tx, hdW X.s ((Pos.at p).word X.ws) = ⟨kd, tx, nu, pcB X.s X.ws p, pcC X.s X.ws p⟩ := by
  simp only [pcB, pcC, Pos.word]
  cases X.ws[p]? with
  | none => exact ⟨2, 0, emp, rfl⟩
  | some y => exact ⟨y.kind, y.num, y.text, rfl⟩
set_option maxHeartbeats 4000000 in
theorem refuse_bad {X : Rx} {w : World} {y q : Nat} (h : Ps X w (.bad y q)) (y' : Nat) :
    Calls Tryz.prog 35 #[.pointer (some ⟨X.b, 0, none⟩), .int .i64 (y' : Nat)] w fun e w' => e = .returned (.tuple #[]) ∧ Ps X w' (.bad y q) ∧ Bux X.b w w' := by
  obtain ⟨hy, hR⟩ := h.at'
  obtain ⟨t0, f0⟩ := txcell hR 0 _ rfl
  obtain ⟨t3, -⟩ := txcell hR 3 _ rfl
  have hy' : ((y : Int) == 0) = false := by rw [beq_eq_false_iff_ne]; omega
  have hB : Bux X.b w (w.setCell ⟨X.b, 0, none⟩ (.slice none 0 0)) := (Bux.refl _ w).set 0 _
  have HF : Hid (Ps X (w.setCell ⟨X.b, 0, none⟩ (.slice none 0 0)) (.bad y q) ∧ Bux X.b w (w.setCell ⟨X.b, 0, none⟩ (.slice none 0 0))) := ⟨h.to hB ⟨hy, tx_set hR 0 _⟩, hB⟩
  obtain ⟨b, hb⟩ : ∃ b, X.b = b := ⟨_, rfl⟩
  rw [hb] at t0 f0 t3
  rw [hb]
  clear hR h hB
  go_enter Tryz.func35, Tryz.ntmps35
  go_wp2
  go_end0
  have := HF.out
  rw [hb] at this
  exact ⟨rfl, this⟩
theorem field_place (kd nu by' ch : Nat) (tx : ByteArray) (w : World) : (Instr.field 116 (.agg #[.int .i64 (kd : Nat), .string tx, .int .i64 (nu : Nat), .int .i64 (by' : Nat), .int .i64 (ch : Nat)]) 3).run Tryz.prog w = .ok (.agg #[.int .i64 (by' : Nat), .int .i64 (ch : Nat)]) w := by kernel_rfl
set_option maxHeartbeats 4000000 in
theorem refuse_at {X : Rx} {w : World} {p : Nat} (h : Ps X w (.at p)) (y' : Nat) (hy0 : y' ≠ 0) :
    Calls Tryz.prog 35 #[.pointer (some ⟨X.b, 0, none⟩), .int .i64 (y' : Nat)] w fun e w' => e = .returned (.tuple #[]) ∧ Ps X w' (.bad y' p) ∧ Bux X.b w w' := by
  obtain ⟨hp, a, c, hac, hR⟩ := h.at'
  obtain ⟨kd, nu, tx, hw⟩ := hd_place (X := X) p
  have FC : Hid (Calls Tryz.prog 56 #[.pointer (some ⟨X.b, 0, none⟩)] w fun e w' => e = .returned (.agg #[.int .i64 (kd : Nat), .string tx, .int .i64 (nu : Nat), .int .i64 (pcB X.s X.ws p : Nat), .int .i64 (pcC X.s X.ws p : Nat)]) ∧ Below w.heap.size w w') := first_at h _ hw
  obtain ⟨t3, f3⟩ := txcell hR 3 _ rfl
  have HF : Hid (∀ w1, Below w.heap.size w w1 → (∀ i, i < 6 → (∃ v, w1.cell? ⟨X.b, i, none⟩ = some v) ∧ w1.frozen? ⟨X.b, i, none⟩ = false) ∧ Ps X ((((w1.setCell ⟨X.b, 3, none⟩ (.int .i64 (y' : Nat))).setCell ⟨X.b, 4, none⟩ (.int .i64 (pcB X.s X.ws p : Nat))).setCell ⟨X.b, 5, none⟩ (.int .i64 (pcC X.s X.ws p : Nat))).setCell ⟨X.b, 0, none⟩ (.slice none 0 0)) (.bad y' p) ∧ Bux X.b w ((((w1.setCell ⟨X.b, 3, none⟩ (.int .i64 (y' : Nat))).setCell ⟨X.b, 4, none⟩ (.int .i64 (pcB X.s X.ws p : Nat))).setCell ⟨X.b, 5, none⟩ (.int .i64 (pcC X.s X.ws p : Nat))).setCell ⟨X.b, 0, none⟩ (.slice none 0 0))) := fun w1 hB1 => by
    have h1 := h.keep hB1
    have hR1 := hR.keep hB1
    have hB2 : Bux X.b w1 ((((w1.setCell ⟨X.b, 3, none⟩ (.int .i64 (y' : Nat))).setCell ⟨X.b, 4, none⟩ (.int .i64 (pcB X.s X.ws p : Nat))).setCell ⟨X.b, 5, none⟩ (.int .i64 (pcC X.s X.ws p : Nat))).setCell ⟨X.b, 0, none⟩ (.slice none 0 0)) := ((((Bux.refl _ w1).set 3 _).set 4 _).set 5 _).set 0 _
    refine ⟨fun i hi => ?_, h1.to hB2 ⟨hy0, tx_set (tx_set (tx_set (tx_set hR1 3 _) 4 _) 5 _) 0 _⟩, (Bux.of hB1).trans hB2⟩
    rcases (show i = 0 ∨ i = 1 ∨ i = 2 ∨ i = 3 ∨ i = 4 ∨ i = 5 by omega) with rfl | rfl | rfl | rfl | rfl | rfl
    · exact ⟨⟨_, (txcell hR1 0 _ rfl).1⟩, (txcell hR1 0 _ rfl).2⟩
    · exact ⟨⟨_, (txcell hR1 1 _ rfl).1⟩, (txcell hR1 1 _ rfl).2⟩
    · exact ⟨⟨_, (txcell hR1 2 _ rfl).1⟩, (txcell hR1 2 _ rfl).2⟩
    · exact ⟨⟨_, (txcell hR1 3 _ rfl).1⟩, (txcell hR1 3 _ rfl).2⟩
    · exact ⟨⟨_, (txcell hR1 4 _ rfl).1⟩, (txcell hR1 4 _ rfl).2⟩
    · exact ⟨⟨_, (txcell hR1 5 _ rfl).1⟩, (txcell hR1 5 _ rfl).2⟩
  obtain ⟨b, hb⟩ : ∃ b, X.b = b := ⟨_, rfl⟩
  obtain ⟨pb, hpb⟩ : ∃ b, pcB X.s X.ws p = b := ⟨_, rfl⟩
  obtain ⟨pc, hpc⟩ : ∃ b, pcC X.s X.ws p = b := ⟨_, rfl⟩
  rw [hb, hpb, hpc] at HF FC
  rw [hb] at t3
  rw [hb]
  clear hR h hac hw hpb hpc
  have hfd := field_place kd nu pb pc tx
  go_enter Tryz.func35, Tryz.ntmps35
  go_wp2_with (go_at_call 56; refine (FC.out).mono ?_; rintro e w1 ⟨rfl, hB1⟩; have HG := HF.out w1 hB1; obtain ⟨hfz, HH⟩ := HG; obtain ⟨⟨v3, e3⟩, q3⟩ := hfz 3 (by omega); obtain ⟨⟨v4, e4⟩, q4⟩ := hfz 4 (by omega); obtain ⟨⟨v5, e5⟩, q5⟩ := hfz 5 (by omega); obtain ⟨⟨v0, e0⟩, q0⟩ := hfz 0 (by omega); have HK := mkHid HH; clear HH hfz)
  go_end0
  exact ⟨rfl, HK.out⟩
theorem refuse_any {X : Rx} {w : World} {P : Pos} (h : Ps X w P) (y' : Nat) (hy0 : y' ≠ 0) :
    Calls Tryz.prog 35 #[.pointer (some ⟨X.b, 0, none⟩), .int .i64 (y' : Nat)] w fun e w' => e = .returned (.tuple #[]) ∧ Ps X w' (P.ref y') ∧ Bux X.b w w' := by
  cases P with
  | bad y q => exact refuse_bad h y'
  | «at» p => exact refuse_at h y' hy0
/- needs -/
set_option maxHeartbeats 4000000 in
theorem needs_at {X : Rx} {w : World} {P P' : Pos} {x : ByteArray} (h : Ps X w P) (hx : x ≠ emp) (hn : P.need X.ws x P') :
    Calls Tryz.prog 81 #[.pointer (some ⟨X.b, 0, none⟩), .string x] w fun e w' => e = .returned (.tuple #[]) ∧ Ps X w' P' ∧ Bux X.b w w' := by
  rcases hn with ⟨p, rfl, hs, rfl⟩ | ⟨hs, rfl⟩
  · have TC := mkHid (takes_yes h hs)
    go_enter Tryz.func81, Tryz.ntmps81
    go_wp2_with (go_at_call 37; refine (TC.out).mono ?_; rintro e w1 ⟨rfl, h1, hB1⟩)
    go_end0
    exact ⟨rfl, h1, hB1⟩
  · have TC := mkHid (takes_no h hx hs)
    go_enter Tryz.func81, Tryz.ntmps81
    go_wp2_with (first
      | (go_at_call 37; refine (TC.out).mono ?_; rintro e w1 ⟨rfl, h1, hB1⟩)
      | (go_at_call 35; refine (refuse_any h1 71 (by decide)).mono ?_; rintro e w2 ⟨rfl, h2, hB2⟩))
    go_end0
    exact ⟨rfl, h2, (Bux.of hB1).trans hB2⟩
/- connect, combine -/
set_option maxHeartbeats 4000000 in
theorem connect_at (o : Int) (a : Option Addr) (n c : Nat) (w : World) :
    Calls Tryz.prog 38 #[.int .i64 o, .slice a n c] w fun e w' => e = .returned (.agg #[.int .i64 o, .string emp, .int .i64 0, .slice none 0 0, .slice a n c]) ∧ Below w.heap.size w w' := by
  go_enter Tryz.func38, Tryz.ntmps38
  go_wp2
  exact bodyPost_ret (v := .agg #[.int .i64 o, .string emp, .int .i64 0, .slice none 0 0, .slice a n c]) (by simp [results, Tryz.results38, go_sem]) rfl ⟨rfl, bal w _⟩
set_option maxHeartbeats 4000000 in
theorem combine_at (o : Int) (a : Option Addr) (n c : Nat) (w : World) :
    Calls Tryz.prog 45 #[.int .i64 o, .slice a n c] w fun e w' => e = .returned (.agg #[.int .i64 o, .int .i64 0, .string emp, .slice a n c]) ∧ Below w.heap.size w w' := by
  go_enter Tryz.func45, Tryz.ntmps45
  go_wp2
  exact bodyPost_ret (v := .agg #[.int .i64 o, .int .i64 0, .string emp, .slice a n c]) (by simp [results, Tryz.results45, go_sem]) rfl ⟨rfl, bal w _⟩
end Go.Proofs.YtncgmnijgdfenaaGreatDoor.Gl
/- The landed reader: product. -/
namespace Go.Proofs.YtncgmnijgdfenaaGreatDoor.Gl
open Go.RowKit
set_option linter.unusedVariables false
set_option linter.unusedSimpArgs false

/-- how far a reader may still go: for a loop's measure -/
def rdM (b : Nat) (w : World) : Nat := match w.heap[b]? with
  | some (Obj.cells vs _ _) => (match vs[0]? with
    | some (Value.slice _ l _) => l
    | _ => 0)
  | _ => 0
theorem rdM_at {X : Rx} {w : World} {p : Nat} (h : Ps X w (.at p)) : rdM X.b w = X.n - p := by
  obtain ⟨_, a, c, _, hR⟩ := h.at'
  have hR' : w.heap[X.b]? = _ := hR
  simp [rdM, hR']
theorem rdM_bad {X : Rx} {w : World} {y q : Nat} (h : Ps X w (.bad y q)) : rdM X.b w = 0 := by
  obtain ⟨_, hR⟩ := h.at'
  have hR' : w.heap[X.b]? = _ := hR
  simp [rdM, hR']
theorem rdM_lt {X : Rx} {w w' : World} {p : Nat} {P : Pos} (h : Ps X w (.at p)) (hp : p < X.ws.length) (h' : Ps X w' P) (hP : P.from (p + 1)) : rdM X.b w' < rdM X.b w := by
  have hn := h.words.len
  rw [rdM_at h]
  cases P with
  | bad y q => rw [rdM_bad h']; omega
  | «at» q =>
    rw [rdM_at h']
    have : p + 1 ≤ q := hP
    omega
/- a block written whole -/
abbrev st4 (w : World) (B : Nat) (v0 v1 v2 v3 : Value) : World := (((w.setCell ⟨B, 0, none⟩ v0).setCell ⟨B, 1, none⟩ v1).setCell ⟨B, 2, none⟩ v2).setCell ⟨B, 3, none⟩ v3
theorem Ps.st4 {X : Rx} {w : World} {P : Pos} (h : Ps X w P) {B : Nat} (hne : X.b ≠ B) (hB : X.W.heap.size ≤ B) (v0 v1 v2 v3 : Value) : Ps X (st4 w B v0 v1 v2 v3) P := (((h.other hne hB 0 v0).other hne hB 1 v1).other hne hB 2 v2).other hne hB 3 v3
theorem Bux.st4 {b B : Nat} {w w' : World} (h : Bux b w w') (hB : w.heap.size ≤ B) (v0 v1 v2 v3 : Value) : Bux b w (st4 w' B v0 v1 v2 v3) := but_new (but_new (but_new (but_new h hB 0 v0) hB 1 v1) hB 2 v2) hB 3 v3
theorem Hi.st4 {P : Nat → Prop} {B : Nat} (hB : ∀ k, P k → k ≠ B) (w : World) (v0 v1 v2 v3 : Value) : Hi P w (st4 w B v0 v1 v2 v3) := ((((Hi.refl P w).set hB 0 v0).set hB 1 v1).set hB 2 v2).set hB 3 v3
theorem Rb.st4 {w : World} {B X : Nat} {vs : Array Value} {t : TypeId} (h : Rb w B vs t) (hne : B ≠ X) (v0 v1 v2 v3 : Value) : Rb (st4 w X v0 v1 v2 v3) B vs t := (((h.other hne 0 v0).other hne 1 v1).other hne 2 v2).other hne 3 v3
abbrev st5 (w : World) (B : Nat) (v0 v1 v2 v3 v4 : Value) : World := (st4 w B v0 v1 v2 v3).setCell ⟨B, 4, none⟩ v4
theorem Ps.st5 {X : Rx} {w : World} {P : Pos} (h : Ps X w P) {B : Nat} (hne : X.b ≠ B) (hB : X.W.heap.size ≤ B) (v0 v1 v2 v3 v4 : Value) : Ps X (st5 w B v0 v1 v2 v3 v4) P := (h.st4 hne hB v0 v1 v2 v3).other hne hB 4 v4
theorem Bux.st5 {b B : Nat} {w w' : World} (h : Bux b w w') (hB : w.heap.size ≤ B) (v0 v1 v2 v3 v4 : Value) : Bux b w (st5 w' B v0 v1 v2 v3 v4) := but_new (h.st4 hB v0 v1 v2 v3) hB 4 v4
theorem Hi.st5 {P : Nat → Prop} {B : Nat} (hB : ∀ k, P k → k ≠ B) (w : World) (v0 v1 v2 v3 v4 : Value) : Hi P w (st5 w B v0 v1 v2 v3 v4) := (Hi.st4 hB w v0 v1 v2 v3).set hB 4 v4
theorem Rb.st5 {w : World} {B X : Nat} {vs : Array Value} {t : TypeId} (h : Rb w B vs t) (hne : B ≠ X) (v0 v1 v2 v3 v4 : Value) : Rb (st5 w X v0 v1 v2 v3 v4) B vs t := (h.st4 hne v0 v1 v2 v3).other hne 4 v4
/-- what a part of a term answers -/
def TmRes (X : Rx) (w : World) (r : Out Tm) (e : Ending) (w' : World) : Prop :=
  ∃ o m xs ao n c t, e = .returned (.agg #[.int .i64 o, .int .i64 m, .string xs, .slice ao n c]) ∧ RdTn (Ge w.heap.size) w' t (.int .i64 o) (.int .i64 m) (.string xs) (.slice ao n c) ∧ Ps X w' r.pos ∧ Bux X.b w w' ∧ r.is t
/- the contracts, from N on -/
def FacC (X : Rx) (N : Nat) : Prop := ∀ w P r, Ps X w P → P.from N → GT X.ws .fac P r → Calls Tryz.prog 64 #[.pointer (some ⟨X.b, 0, none⟩)] w (TmRes X w r)
def ProC (X : Rx) (N : Nat) : Prop := ∀ w P r, Ps X w P → P.from N → GT X.ws .prod P r → Calls Tryz.prog 44 #[.pointer (some ⟨X.b, 0, none⟩)] w (TmRes X w r)
def SumC (X : Rx) (N : Nat) : Prop := ∀ w P r, Ps X w P → P.from N → GT X.ws .sum P r → Calls Tryz.prog 25 #[.pointer (some ⟨X.b, 0, none⟩)] w (TmRes X w r)
set_option maxRecDepth 100000 in
set_option maxHeartbeats 4000000 in
theorem product_step {X : Rx} {N : Nat} (F : FacC X N) : ProC X N := by
  intro w P r h hP hr
  obtain ⟨r0, hr0, hl⟩ := gt_prod hr
  have hbw := h.lt
  have hWw := h.below.size
  have hR1 := rb_new w zT 42
  have h1 := h.alloc (.cells zT 42)
  have hB1 : Bux X.b w (w.alloc (.cells zT 42)) := Bux.of (bal w _)
  have FC := mkHid (F _ _ _ h1 hP hr0)
  have hf0 := hr0.from hP
  have HL := mkHid hl
  have FF := mkHid F
  clear hr hl F hr0
  go_enter Tryz.func44, Tryz.ntmps44
  go_wp2_with (go_at_call 64; refine (FC.out).mono ?_; rintro e w2 ⟨o, m, xs, lo, ln, lc, x, rfl, hV2, h2, hC2, hx⟩; have hR2 := hR1.but hC2 (by omega); have hs1 : w.heap.size < w2.heap.size := (Array.getElem?_eq_some_iff.1 hR2).1)
  have hX3 := rb_new w2 #[.int .i64 o, .int .i64 m, .string xs, .slice lo ln lc] 42
  have h3 := h2.alloc (.cells #[.int .i64 o, .int .i64 m, .string xs, .slice lo ln lc] 42)
  have hR3 := hR2.keep (bal w2 (.cells #[.int .i64 o, .int .i64 m, .string xs, .slice lo ln lc] 42))
  have hU3 : Bux X.b w (w2.alloc (.cells #[.int .i64 o, .int .i64 m, .string xs, .slice lo ln lc] 42)) := (hB1.trans hC2).trans (Bux.of (bal w2 _))
  have hV3 : RdTn (fun k => w.heap.size < k ∧ k ≠ w2.heap.size) (w2.alloc (.cells #[.int .i64 o, .int .i64 m, .string xs, .slice lo ln lc] 42)) x (.int .i64 o) (.int .i64 m) (.string xs) (.slice lo ln lc) := by
    refine RdTn.keep (Hi.of (bal w2 _)) _ _ _ _ _ (RdTn.low (fun k hk (hg : _ ≤ k) => ?_) _ _ _ _ _ hV2)
    simp only [World.size_alloc] at hg
    exact ⟨by omega, by omega⟩
  have hlx := HL.out x hx
  go_loopw [] (fun wr => ∃ o m xs lo ln lc x P1, Rb wr w2.heap.size #[.int .i64 o, .int .i64 m, .string xs, .slice lo ln lc] 42 ∧ RdTn (fun k => w.heap.size < k ∧ k ≠ w2.heap.size) wr x (.int .i64 o) (.int .i64 m) (.string xs) (.slice lo ln lc) ∧ Ps X wr P1 ∧ P1.from N ∧ GT X.ws (.prodL x) P1 r ∧ Bux X.b w wr ∧ Rb wr w.heap.size zT 42) (fun wr => rdM X.b wr)
  case atStart => exact ⟨o, m, xs, lo, ln, lc, x, r0.pos, hX3, hV3, h3, hf0, hlx, hU3, hR3⟩
  case round =>
    have hbX : X.b ≠ w2.heap.size := by have := h2.lt; omega
    have hRX : w.heap.size < w2.heap.size := by omega
    have hWX : X.W.heap.size ≤ w2.heap.size := by omega
    clear hX3 h3 hR3 hU3 hV3 h2 hC2 hR2 h1 hR1 hB1 hV2 hx hlx HL FC hf0
    obtain ⟨o, m, xs, lo, ln, lc, x, P1, hX, hV, hS, hP1, hG, hU, hR⟩ := hrel
    have hXlt := (Array.getElem?_eq_some_iff.1 hX).1
    by_cases hst : P1.stands X.ws kStar
    · cases P1 with
      | bad y q => exact hst.elim
      | «at» p =>
        obtain ⟨r', hr', hl'⟩ := gt_prodL_yes hG hst
        have hlt := IsS.lt hst
        have hf' := hr'.from (N := p + 1) (Nat.le_refl _)
        have TC := mkHid (takes_yes (x := kStar) hS hst)
        have FC := mkHid (fun w5 h5 => FF.out w5 (.at (p + 1)) r' h5 (Nat.le_succ_of_le hP1) hr')
        have HL := mkHid hl'
        have hf2 := mkHid (hr'.from (N := N) (Nat.le_succ_of_le hP1))
        clear hr' hl' hG FF
        go_wp2_with (go_at_call 37; refine (TC.out).mono ?_; rintro e w4 ⟨rfl, h4, hC4⟩; have hX4 := hX.but hC4 (fun e => hbX e.symm); have hR4 := hR.but hC4 (by omega); have hU4 := hU.trans hC4; have hV4 := RdTn.keep (Hi.but hC4 (fun k hk => by omega)) _ _ _ _ _ hV; obtain ⟨x0, -⟩ := txcell hX4 0 _ rfl; obtain ⟨x1, -⟩ := txcell hX4 1 _ rfl; obtain ⟨x2, -⟩ := txcell hX4 2 _ rfl; obtain ⟨x3, -⟩ := txcell hX4 3 _ rfl)
        go_region_with (first
          | (go_at_call 64
             refine (FC.out _ ?_).mono ?_
             exact h4.drew
             rintro e w6 ⟨o2, m2, xs2, lo2, ln2, lc2, y, rfl, hY5, h6, hC6, hy⟩
             have hX6 := Rb.but (w := w4.drew) hX4 hC6 (fun e => hbX e.symm)
             have hR6 := Rb.but (w := w4.drew) hR4 hC6 (by omega)
             have hU6 := (but_drew hU4).trans hC6
             have hs6 : w2.heap.size < w4.heap.size := (Array.getElem?_eq_some_iff.1 hX4).1
             have hs7 : w4.heap.size ≤ w6.heap.size := hC6.size
             have hV6 := RdTn.keep (W := w4.drew) (Hi.but hC6 (fun k hk => by omega)) _ _ _ _ _ (RdTn.keep (Hi.of (Below.refl _ w4).drew) _ _ _ _ _ hV4)
             have hY6 : RdTn (fun k => w.heap.size < k ∧ k ≠ w2.heap.size) w6 y (.int .i64 o2) (.int .i64 m2) (.string xs2) (.slice lo2 ln2 lc2) := RdTn.low (fun k _ (hk : w4.heap.size ≤ k) => ⟨by omega, by omega⟩) _ _ _ _ _ hY5
             obtain ⟨z0, -⟩ := txcell hX6 0 _ rfl
             obtain ⟨z1, -⟩ := txcell hX6 1 _ rfl
             obtain ⟨z2, -⟩ := txcell hX6 2 _ rfl
             obtain ⟨z3, -⟩ := txcell hX6 3 _ rfl)
          | (go_at_call 45
             refine (combine_at _ _ _ _ _).mono ?_
             rintro e w7 ⟨rfl, hB7⟩
             have hX7 := (hX6.keep (bal w6 _)).keep hB7
             have hR7 := (hR6.keep (bal w6 _)).keep hB7
             have h7 := (h6.alloc _).keep hB7
             have hU7 := (hU6.trans (Bux.of (bal w6 _))).trans (Bux.of hB7)
             have hV7 := RdTn.keep (Hi.of hB7) _ _ _ _ _ (mk2 hV6 hY6 rfl ⟨by omega, by omega⟩ 5 0 emp ⟨by decide, by decide, sz_emp⟩)
             have hX8 := rb_four hX7 rfl (.int .i64 5) (.int .i64 0) (.string emp) (.slice (some ⟨w6.heap.size, 0, none⟩) 2 2)
             have h8 := h7.st4 hbX hWX (.int .i64 5) (.int .i64 0) (.string emp) (.slice (some ⟨w6.heap.size, 0, none⟩) 2 2)
             have hU8 := hU7.st4 (Nat.le_of_lt hRX) (.int .i64 5) (.int .i64 0) (.string emp) (.slice (some ⟨w6.heap.size, 0, none⟩) 2 2)
             have hV8 := RdTn.keep (Hi.st4 (fun k (hk : w.heap.size < k ∧ k ≠ w2.heap.size) => hk.2) w7 (.int .i64 5) (.int .i64 0) (.string emp) (.slice (some ⟨w6.heap.size, 0, none⟩) 2 2)) _ _ _ _ _ hV7
             have hR8 := hR7.st4 (X := w2.heap.size) (by omega) (.int .i64 5) (.int .i64 0) (.string emp) (.slice (some ⟨w6.heap.size, 0, none⟩) 2 2)
             obtain ⟨u0, v0⟩ := txcell hX7 0 _ rfl
             obtain ⟨u1, v1⟩ := txcell hX7 1 _ rfl
             obtain ⟨u2, v2⟩ := txcell hX7 2 _ rfl
             obtain ⟨u3, v3⟩ := txcell hX7 3 _ rfl))
        all_goals
          go_roundw
          case rel => exact ⟨_, _, _, _, _, _, _, ⟨5, 0, emp, some ⟨w6.heap.size, 0, none⟩, 2, 2, tMul x y, r'.pos, hX8, hV8, h8, hf2.out, HL.out y hy, hU8, hR8⟩, rfl⟩
          case measure => exact rdM_lt hS hlt h8 hf'
    · obtain ⟨hq, hi⟩ := gt_prodL_no hG hst
      have TC := mkHid (takes_no (x := kStar) hS (by decide) hst)
      clear FF hG hst
      go_wp2_with (go_at_call 37; refine (TC.out).mono ?_; rintro e w4 ⟨rfl, h4, hB4⟩; have hX4 := hX.keep hB4; have hR4 := hR.keep hB4; have hU4 := hU.trans (Bux.of hB4); have hV4 := RdTn.keep (Hi.of hB4) _ _ _ _ _ hV; obtain ⟨x0, -⟩ := txcell hX4 0 _ rfl; obtain ⟨x1, -⟩ := txcell hX4 1 _ rfl; obtain ⟨x2, -⟩ := txcell hX4 2 _ rfl; obtain ⟨x3, -⟩ := txcell hX4 3 _ rfl; obtain ⟨r0, g0⟩ := txcell hR4 0 _ rfl; obtain ⟨r1, g1⟩ := txcell hR4 1 _ rfl; obtain ⟨r2, g2⟩ := txcell hR4 2 _ rfl; obtain ⟨r3, g3⟩ := txcell hR4 3 _ rfl; have hRy := rb_four hR4 rfl (.int .i64 o) (.int .i64 m) (.string xs) (.slice lo ln lc); obtain ⟨k0, -⟩ := txcell hRy 0 _ rfl; obtain ⟨k1, -⟩ := txcell hRy 1 _ rfl; obtain ⟨k2, -⟩ := txcell hRy 2 _ rfl; obtain ⟨k3, -⟩ := txcell hRy 3 _ rfl)
      exact bodyPost_ret (v := .agg #[.int .i64 o, .int .i64 m, .string xs, .slice lo ln lc]) (by simp [results, Tryz.results44, go_sem, k0, k1, k2, k3]) rfl ⟨o, m, xs, lo, ln, lc, x, rfl, RdTn.low (fun k _ (hk : w.heap.size < k ∧ k ≠ w2.heap.size) => Nat.le_of_lt hk.1) _ _ _ _ _ (RdTn.keep (Hi.st4 (fun k (hk : w.heap.size < k ∧ k ≠ w2.heap.size) => by omega) w4 (.int .i64 o) (.int .i64 m) (.string xs) (.slice lo ln lc)) _ _ _ _ _ hV4), by rw [hq]; exact h4.st4 (by omega) hWw (.int .i64 o) (.int .i64 m) (.string xs) (.slice lo ln lc), hU4.st4 (Nat.le_refl _) (.int .i64 o) (.int .i64 m) (.string xs) (.slice lo ln lc), hi⟩
end Go.Proofs.YtncgmnijgdfenaaGreatDoor.Gl
