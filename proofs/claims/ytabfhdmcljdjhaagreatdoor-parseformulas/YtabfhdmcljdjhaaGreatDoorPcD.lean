/- The document's reader: where it stands, and its small functions. -/
import Derived.Test.YtabfhdmcljdjhaaGreatDoorPcC
import Derived.Deep.RegionWith
namespace Go.Proofs.YtabfhdmcljdjhaaGreatDoor.Gl
open Go.RowKit
set_option linter.unusedVariables false
set_option linter.unusedSimpArgs false

/-- a text at block b: its words, the place, the fault -/
def TxIs (w : World) (b : Nat) (ao : Option Addr) (n cap p why q : Nat) : Prop := w.heap[b]? = some (Obj.cells #[.slice ao n cap, .int .i64 (p : Nat), .int .i64 (why : Nat), .int .i64 (q : Nat)] 59)
set_option maxHeartbeats 4000000 in
theorem is_at (W : World) (s : ByteArray) (ws : List Wd) (ao : Option Addr) (n cap b p why q : Nat) (x : ByteArray) (r : Bool) (w : World) (hT : TxW W s ws ao n cap) (hW : Below W.heap.size W w) (ht : TxIs w b ao n cap p why q) (hr : r = true ↔ why = 0 ∧ IsS ws p x) :
    Calls Tryz.prog 40 #[.pointer (some ⟨b, 0, none⟩), .string x] w fun e w' => e = .returned (.bool r) ∧ Below w.heap.size w w' := by
  have hn := hT.small
  have hlc := hT.rd.lecap
  have hcm := hT.rd.lemax
  have HR : Hid (r = true ↔ why = 0 ∧ IsS ws p x) := hr
  have t0 := (txcell ht 0 _ rfl).1
  have t1 := (txcell ht 1 _ rfl).1
  have t2 := (txcell ht 2 _ rfl).1
  have hnd : ∀ m, Below w.heap.size w (w.drewN m) := fun m => below_drewn (Below.refl _ _) m
  clear hr
  by_cases h0 : why = 0
  · subst h0
    by_cases hlt : p < n
    · obtain ⟨y, g, off, hy, rfl, hg, c0, c1, -⟩ := hT.get hW hlt
      by_cases hk : y.kind = 2
      · have hk' : ((y.kind : Int) == 2) = true := by rw [hk]; rfl
        by_cases hx : y.text = x
        · have HE : Hid (r = true) := HR.out.2 ⟨rfl, y, hy, hk, hx⟩
          have hs : (y.text.toList == x.toList) = true := (eqS_iff _ _).2 hx
          clear HR hy
          go_enter Tryz.func40, Tryz.ntmps40
          go_wp2
          go_quiet (fail)
          go_wp2
          go_ret
          exact ⟨retb HE.out.symm, hnd _⟩
        · have HE : Hid (r = false) := by
            cases r with
            | false => rfl
            | true => obtain ⟨z, hz, _, hzx⟩ := (HR.out.1 rfl).2; rw [hy] at hz; cases hz; exact absurd hzx hx
          have hs : (y.text.toList == x.toList) = false := by
            cases hq : (y.text.toList == x.toList) with
            | false => rfl
            | true => exact absurd ((eqS_iff _ _).1 hq) hx
          clear HR hy
          go_enter Tryz.func40, Tryz.ntmps40
          go_wp2
          go_quiet (fail)
          go_wp2
          go_ret
          exact ⟨retb HE.out.symm, hnd _⟩
      · have HE : Hid (r = false) := by
          cases r with
          | false => rfl
          | true => obtain ⟨z, hz, hzk, _⟩ := (HR.out.1 rfl).2; rw [hy] at hz; cases hz; exact absurd hzk hk
        have hk' : ((y.kind : Int) == 2) = false := by rw [beq_eq_false_iff_ne]; omega
        clear HR hy
        go_enter Tryz.func40, Tryz.ntmps40
        go_wp2
        go_quiet (fail)
        go_wp2
        go_ret
        exact ⟨retb HE.out.symm, hnd _⟩
    · have HE : Hid (r = false) := by
        cases r with
        | false => rfl
        | true => have := (HR.out.1 rfl).2.lt; rw [hT.len] at this; exact absurd this hlt
      have hp' : decide ((p : Int) < (n : Int)) = false := decide_eq_false (by omega)
      clear HR
      go_enter Tryz.func40, Tryz.ntmps40
      go_wp2
      go_quiet (fail)
      go_wp2
      go_ret
      exact ⟨retb HE.out.symm, hnd _⟩
  · have HE : Hid (r = false) := by
      cases r with
      | false => rfl
      | true => exact absurd (HR.out.1 rfl).1 h0
    have h0' : ((why : Int) == 0) = false := by rw [beq_eq_false_iff_ne]; omega
    clear HR
    go_enter Tryz.func40, Tryz.ntmps40
    go_wp2
    go_quiet (fail)
    go_wp2
    go_ret
    exact ⟨retb HE.out.symm, hnd _⟩
set_option maxHeartbeats 4000000 in
theorem kind_at (W : World) (s : ByteArray) (ws : List Wd) (ao : Option Addr) (n cap b p why q k : Nat) (r : Bool) (w : World) (hT : TxW W s ws ao n cap) (hW : Below W.heap.size W w) (ht : TxIs w b ao n cap p why q) (hr : r = true ↔ why = 0 ∧ ∃ y, ws[p]? = some y ∧ y.kind = k) :
    Calls Tryz.prog 92 #[.pointer (some ⟨b, 0, none⟩), .int .i64 (k : Nat)] w fun e w' => e = .returned (.bool r) ∧ Below w.heap.size w w' := by
  have hn := hT.small
  have hlc := hT.rd.lecap
  have hcm := hT.rd.lemax
  have HR : Hid (r = true ↔ why = 0 ∧ ∃ y, ws[p]? = some y ∧ y.kind = k) := hr
  have t0 := (txcell ht 0 _ rfl).1
  have t1 := (txcell ht 1 _ rfl).1
  have t2 := (txcell ht 2 _ rfl).1
  have hnd : ∀ m, Below w.heap.size w (w.drewN m) := fun m => below_drewn (Below.refl _ _) m
  clear hr
  by_cases h0 : why = 0
  · subst h0
    by_cases hlt : p < n
    · obtain ⟨y, g, off, hy, rfl, hg, c0, c1, -⟩ := hT.get hW hlt
      by_cases hk : y.kind = k
      · subst hk
        have HE : Hid (r = true) := HR.out.2 ⟨rfl, y, hy, rfl⟩
        clear HR hy
        go_enter Tryz.func92, Tryz.ntmps92
        go_wp2
        go_quiet (fail)
        go_wp2
        go_ret
        exact ⟨retb HE.out.symm, hnd _⟩
      · have HE : Hid (r = false) := by
          cases r with
          | false => rfl
          | true => obtain ⟨z, hz, hzk⟩ := (HR.out.1 rfl).2; rw [hy] at hz; cases hz; exact absurd hzk hk
        have hk' : ((y.kind : Int) == (k : Int)) = false := by rw [beq_eq_false_iff_ne]; omega
        clear HR hy
        go_enter Tryz.func92, Tryz.ntmps92
        go_wp2
        go_quiet (fail)
        go_wp2
        go_ret
        exact ⟨retb HE.out.symm, hnd _⟩
    · have HE : Hid (r = false) := by
        cases r with
        | false => rfl
        | true =>
          obtain ⟨z, hz, _⟩ := (HR.out.1 rfl).2
          have := lt_of_some hz
          rw [hT.len] at this
          exact absurd this hlt
      have hp' : decide ((p : Int) < (n : Int)) = false := decide_eq_false (by omega)
      clear HR
      go_enter Tryz.func92, Tryz.ntmps92
      go_wp2
      go_quiet (fail)
      go_wp2
      go_ret
      exact ⟨retb HE.out.symm, hnd _⟩
  · have HE : Hid (r = false) := by
      cases r with
      | false => rfl
      | true => exact absurd (HR.out.1 rfl).1 h0
    have h0' : ((why : Int) == 0) = false := by rw [beq_eq_false_iff_ne]; omega
    clear HR
    go_enter Tryz.func92, Tryz.ntmps92
    go_wp2
    go_quiet (fail)
    go_wp2
    go_ret
    exact ⟨retb HE.out.symm, hnd _⟩
set_option maxHeartbeats 2000000 in
theorem fail_at (ao : Option Addr) (n cap b p why q k : Nat) (w : World) (ht : TxIs w b ao n cap p why q) :
    Calls Tryz.prog 42 #[.pointer (some ⟨b, 0, none⟩), .int .i64 (k : Nat)] w fun e w' => e = .returned (.tuple #[]) ∧ TxIs w' b ao n cap p (if why = 0 then k else why) (if why = 0 then p else q) ∧ Bux b w w' := by
  obtain ⟨t1, f1⟩ := txcell ht 1 _ rfl
  obtain ⟨t2, f2⟩ := txcell ht 2 _ rfl
  obtain ⟨t3, f3⟩ := txcell ht 3 _ rfl
  by_cases h0 : why = 0
  · subst h0
    have hs1 := tx_set ht 2 (.int .i64 (k : Nat))
    have hs2 := tx_set hs1 3 (.int .i64 (p : Nat))
    obtain ⟨u3, g3⟩ := txcell hs1 3 _ rfl
    have hB : Bux b w ((w.setCell ⟨b, 2, none⟩ (.int .i64 (k : Nat))).setCell ⟨b, 3, none⟩ (.int .i64 (p : Nat))) := ((Bux.refl b w).set 2 _).set 3 _
    rw [if_pos rfl, if_pos rfl]
    clear ht
    go_enter Tryz.func42, Tryz.ntmps42
    go_wp2
    go_end0
    exact ⟨rfl, hs2, hB⟩
  · have h0' : ¬ (why : Int) = 0 := by omega
    rw [if_neg h0, if_neg h0]
    have HT : Hid (TxIs w b ao n cap p why q) := ht
    clear ht
    go_enter Tryz.func42, Tryz.ntmps42
    go_wp2
    go_end0
    exact ⟨rfl, HT.out, Bux.refl _ _⟩
/-- where the document's reader stands -/
def DsAt (X : Rx) (w : World) : Pos → Prop
  | .at p => p ≤ X.n ∧ TxIs w X.b X.ao X.n X.cap p 0 0
  | .bad y q => y ≠ 0 ∧ ∃ p, p ≤ X.n ∧ TxIs w X.b X.ao X.n X.cap p y q
structure Ds (X : Rx) (w : World) (P : Pos) : Prop where
  words : TxW X.W X.s X.ws X.ao X.n X.cap
  new : X.W.heap.size ≤ X.b
  below : Below X.W.heap.size X.W w
  at' : DsAt X w P
theorem Ds.block {X : Rx} {w : World} {P : Pos} (h : Ds X w P) : ∃ vs, Rb w X.b vs 59 := by
  have := h.at'
  cases P with
  | «at» p => exact ⟨_, this.2⟩
  | bad y q => obtain ⟨_, p, _, hR⟩ := this; exact ⟨_, hR⟩
theorem Ds.lt {X : Rx} {w : World} {P : Pos} (h : Ds X w P) : X.b < w.heap.size := by
  obtain ⟨vs, hR⟩ := h.block
  exact (Array.getElem?_eq_some_iff.1 hR).1
theorem DsAt.same {X : Rx} {w w' : World} {P : Pos} (h : DsAt X w P) (hb : w'.heap[X.b]? = w.heap[X.b]?) : DsAt X w' P := by
  cases P with
  | «at» p => exact ⟨h.1, hb.trans h.2⟩
  | bad y q => obtain ⟨hy, p, hp, hR⟩ := h; exact ⟨hy, p, hp, hb.trans hR⟩
theorem Ds.keep {X : Rx} {w w' : World} {P : Pos} (h : Ds X w P) (hB : Below w.heap.size w w') : Ds X w' P :=
  ⟨h.words, h.new, h.below.trans (hB.mono h.below.size), h.at'.same (hB.block X.b h.lt)⟩
theorem Ds.other {X : Rx} {w : World} {P : Pos} (h : Ds X w P) {B : Nat} (hne : X.b ≠ B) (hB : X.W.heap.size ≤ B) (i : Nat) (v : Value) : Ds X (w.setCell ⟨B, i, none⟩ v) P :=
  ⟨h.words, h.new, h.below.setCell (p := ⟨B, i, none⟩) hB v, h.at'.same (Below.heap_setCell _ _ _ X.b (by simpa using hne))⟩
theorem Ds.drew {X : Rx} {w : World} {P : Pos} (h : Ds X w P) : Ds X w.drew P := ⟨h.words, h.new, h.below.drew, h.at'.same rfl⟩
theorem Ds.alloc {X : Rx} {w : World} {P : Pos} (h : Ds X w P) (o : Obj) : Ds X (w.alloc o) P := h.keep (bal w o)
theorem Ds.to {X : Rx} {w w' : World} {P P' : Pos} (h : Ds X w P) (hB : Bux X.b w w') (ht : DsAt X w' P') : Ds X w' P' :=
  ⟨h.words, h.new, h.below.trans (hB.below h.new h.below.size), ht⟩
/-- goes on by a word -/
theorem Ds.next {X : Rx} {w : World} {p : Nat} (h : Ds X w (.at p)) (hp : p < X.ws.length) : Ds X (w.setCell ⟨X.b, 1, none⟩ (.int .i64 ((p : Int) + 1))) (.at (p + 1)) ∧ Bux X.b w (w.setCell ⟨X.b, 1, none⟩ (.int .i64 ((p : Int) + 1))) := by
  have hn := h.words.len
  have hB : Bux X.b w (w.setCell ⟨X.b, 1, none⟩ (.int .i64 ((p : Int) + 1))) := (Bux.refl _ w).set 1 _
  exact ⟨h.to hB ⟨by omega, tx_set h.at'.2 1 _⟩, hB⟩
theorem Ds.small {X : Rx} {w : World} {p : Nat} (h : Ds X w (.at p)) : p ≤ 4096 := Nat.le_trans h.at'.1 h.words.small
theorem dis_yes {X : Rx} {w : World} {p : Nat} {x : ByteArray} (h : Ds X w (.at p)) (hs : IsS X.ws p x) :
    Calls Tryz.prog 40 #[.pointer (some ⟨X.b, 0, none⟩), .string x] w fun e w' => e = .returned (.bool true) ∧ Below w.heap.size w w' :=
  is_at X.W X.s X.ws X.ao X.n X.cap X.b p 0 0 x true w h.words h.below h.at'.2 ⟨fun _ => ⟨rfl, hs⟩, fun _ => rfl⟩
theorem dis_no {X : Rx} {w : World} {P : Pos} {x : ByteArray} (h : Ds X w P) (hs : ¬ P.stands X.ws x) :
    Calls Tryz.prog 40 #[.pointer (some ⟨X.b, 0, none⟩), .string x] w fun e w' => e = .returned (.bool false) ∧ Below w.heap.size w w' := by
  have ha := h.at'
  cases P with
  | «at» p => exact is_at X.W X.s X.ws X.ao X.n X.cap X.b p 0 0 x false w h.words h.below ha.2 ⟨fun e => (by cases e), fun e => absurd e.2 hs⟩
  | bad y q =>
    obtain ⟨hy, p, _, hR⟩ := ha
    exact is_at X.W X.s X.ws X.ao X.n X.cap X.b p y q x false w h.words h.below hR ⟨fun e => (by cases e), fun e => absurd e.1 hy⟩
theorem dkd_yes {X : Rx} {w : World} {P : Pos} {k : Nat} (h : Ds X w P) (hs : P.kinds X.ws k) :
    Calls Tryz.prog 92 #[.pointer (some ⟨X.b, 0, none⟩), .int .i64 (k : Nat)] w fun e w' => e = .returned (.bool true) ∧ Below w.heap.size w w' := by
  cases P with
  | «at» p => exact kind_at X.W X.s X.ws X.ao X.n X.cap X.b p 0 0 k true w h.words h.below h.at'.2 ⟨fun _ => ⟨rfl, hs⟩, fun _ => rfl⟩
  | bad y q => exact hs.elim
theorem dkd_no {X : Rx} {w : World} {P : Pos} {k : Nat} (h : Ds X w P) (hs : ¬ P.kinds X.ws k) :
    Calls Tryz.prog 92 #[.pointer (some ⟨X.b, 0, none⟩), .int .i64 (k : Nat)] w fun e w' => e = .returned (.bool false) ∧ Below w.heap.size w w' := by
  have ha := h.at'
  cases P with
  | «at» p => exact kind_at X.W X.s X.ws X.ao X.n X.cap X.b p 0 0 k false w h.words h.below ha.2 ⟨fun e => (by cases e), fun e => absurd e.2 hs⟩
  | bad y q =>
    obtain ⟨hy, p, _, hR⟩ := ha
    exact kind_at X.W X.s X.ws X.ao X.n X.cap X.b p y q k false w h.words h.below hR ⟨fun e => (by cases e), fun e => absurd e.1 hy⟩
theorem dfail_at {X : Rx} {w : World} {P : Pos} (h : Ds X w P) (k : Nat) (hk : k ≠ 0) :
    Calls Tryz.prog 42 #[.pointer (some ⟨X.b, 0, none⟩), .int .i64 (k : Nat)] w fun e w' => e = .returned (.tuple #[]) ∧ Ds X w' (P.ref k) ∧ Bux X.b w w' := by
  have ha := h.at'
  cases P with
  | «at» p => exact (fail_at X.ao X.n X.cap X.b p 0 0 k w ha.2).mono fun e w' ⟨h1, h2, h3⟩ => ⟨h1, h.to h3 ⟨hk, p, ha.1, h2⟩, h3⟩
  | bad y q =>
    obtain ⟨hy, p, hp, hR⟩ := ha
    exact (fail_at X.ao X.n X.cap X.b p y q k w hR).mono fun e w' ⟨h1, h2, h3⟩ => ⟨h1, h.to h3 ⟨hy, p, hp, by rw [if_neg hy, if_neg hy] at h2; exact h2⟩, h3⟩
set_option maxHeartbeats 4000000 in
theorem dpast_at {X : Rx} {w : World} {P P' : Pos} {x : ByteArray} (h : Ds X w P) (hn : P.need X.ws x P') :
    Calls Tryz.prog 69 #[.pointer (some ⟨X.b, 0, none⟩), .string x] w fun e w' => e = .returned (.tuple #[]) ∧ Ds X w' P' ∧ Bux X.b w w' := by
  rcases hn with ⟨p, rfl, hs, rfl⟩ | ⟨hs, rfl⟩
  · have TC := mkHid (dis_yes h hs)
    have hsm := h.small
    have hlt := hs.lt
    go_enter Tryz.func69, Tryz.ntmps69
    go_wp2_with (go_at_call 40; refine (TC.out).mono ?_; rintro e w1 ⟨rfl, hB1⟩; have h1 := h.keep hB1; obtain ⟨t1, f1⟩ := txcell h1.at'.2 1 _ rfl)
    go_end0
    have HN := h1.next hlt
    exact ⟨rfl, HN.1, (Bux.of hB1).trans HN.2⟩
  · have TC := mkHid (dis_no h hs)
    go_enter Tryz.func69, Tryz.ntmps69
    go_wp2_with (first
      | (go_at_call 40; refine (TC.out).mono ?_; rintro e w1 ⟨rfl, hB1⟩; have h1 := h.keep hB1)
      | (go_at_call 42; refine (dfail_at h1 71 (by decide)).mono ?_; rintro e w2 ⟨rfl, h2, hB2⟩))
    go_end0
    exact ⟨rfl, h2, (Bux.of hB1).trans hB2⟩
theorem Ds.st4 {X : Rx} {w : World} {P : Pos} (h : Ds X w P) {B : Nat} (hne : X.b ≠ B) (hB : X.W.heap.size ≤ B) (v0 v1 v2 v3 : Value) : Ds X (((((w.setCell ⟨B, 0, none⟩ v0).setCell ⟨B, 1, none⟩ v1).setCell ⟨B, 2, none⟩ v2).setCell ⟨B, 3, none⟩ v3)) P := (((h.other hne hB 0 v0).other hne hB 1 v1).other hne hB 2 v2).other hne hB 3 v3
/-- how far it may still go -/
def dsM (n b : Nat) (w : World) : Nat := match w.heap[b]? with
  | some (Obj.cells vs _ _) => (match vs[1]?, vs[2]? with
    | some (Value.int _ p), some (Value.int _ y) => if y = 0 then n + 1 - p.toNat else 0
    | _, _ => 0)
  | _ => 0
theorem dsM_at {X : Rx} {w : World} {p : Nat} (h : Ds X w (.at p)) : dsM X.n X.b w = X.n + 1 - p := by
  have hR' : w.heap[X.b]? = _ := h.at'.2
  simp [dsM, hR']
theorem dsM_bad {X : Rx} {w : World} {y q : Nat} (h : Ds X w (.bad y q)) : dsM X.n X.b w = 0 := by
  obtain ⟨hy, p, _, hR⟩ := h.at'
  have hR' : w.heap[X.b]? = _ := hR
  have : ¬ ((y : Int) = 0) := by omega
  simp [dsM, hR', hy]
theorem dsM_lt {X : Rx} {w w' : World} {p : Nat} {P : Pos} (h : Ds X w (.at p)) (hp : p < X.ws.length) (h' : Ds X w' P) (hP : P.from (p + 1)) : dsM X.n X.b w' < dsM X.n X.b w := by
  have hn := h.words.len
  rw [dsM_at h]
  cases P with
  | bad y q => rw [dsM_bad h']; omega
  | «at» q =>
    rw [dsM_at h']
    have : p + 1 ≤ q := hP
    have := h'.at'.1
    omega
/-- what a part of a term answers -/
def DTm (X : Rx) (w : World) (r : Out Tm) (e : Ending) (w' : World) : Prop :=
  ∃ o m xs ao n c t, e = .returned (.agg #[.int .i64 o, .int .i64 m, .string xs, .slice ao n c]) ∧ RdTn (Ge w.heap.size) w' t (.int .i64 o) (.int .i64 m) (.string xs) (.slice ao n c) ∧ Ds X w' r.pos ∧ Bux X.b w w' ∧ r.is t
def DFac (X : Rx) (N : Nat) : Prop := ∀ w P r, Ds X w P → P.from N → GT X.ws .fac P r → Calls Tryz.prog 75 #[.pointer (some ⟨X.b, 0, none⟩)] w (DTm X w r)
def DPro (X : Rx) (N : Nat) : Prop := ∀ w P r, Ds X w P → P.from N → GT X.ws .prod P r → Calls Tryz.prog 47 #[.pointer (some ⟨X.b, 0, none⟩)] w (DTm X w r)
def DSum (X : Rx) (N : Nat) : Prop := ∀ w P r, Ds X w P → P.from N → GT X.ws .sum P r → Calls Tryz.prog 25 #[.pointer (some ⟨X.b, 0, none⟩)] w (DTm X w r)
end Go.Proofs.YtabfhdmcljdjhaaGreatDoor.Gl
/- The landed reader: product. -/
namespace Go.Proofs.YtabfhdmcljdjhaaGreatDoor.Gl
open Go.RowKit
set_option linter.unusedVariables false
set_option linter.unusedSimpArgs false

/-- how far a reader may still go: for a loop's measure -/
def rdM (b : Nat) (w : World) : Nat := match w.heap[b]? with
  | some (Obj.cells vs _ _) => (match vs[0]? with
    | some (Value.slice _ l _) => l
    | _ => 0)
  | _ => 0
theorem rdM_at {X : Rx} {w : World} {p : Nat} (h : Ps X w (.at p)) : rdM X.b w = X.n - p := by
  obtain ⟨_, a, c, _, hR⟩ := h.at'
  have hR' : w.heap[X.b]? = _ := hR
  simp [rdM, hR']
theorem rdM_bad {X : Rx} {w : World} {y q : Nat} (h : Ps X w (.bad y q)) : rdM X.b w = 0 := by
  obtain ⟨_, hR⟩ := h.at'
  have hR' : w.heap[X.b]? = _ := hR
  simp [rdM, hR']
theorem rdM_lt {X : Rx} {w w' : World} {p : Nat} {P : Pos} (h : Ps X w (.at p)) (hp : p < X.ws.length) (h' : Ps X w' P) (hP : P.from (p + 1)) : rdM X.b w' < rdM X.b w := by
  have hn := h.words.len
  rw [rdM_at h]
  cases P with
  | bad y q => rw [rdM_bad h']; omega
  | «at» q =>
    rw [rdM_at h']
    have : p + 1 ≤ q := hP
    omega
/- a block written whole -/
abbrev st4 (w : World) (B : Nat) (v0 v1 v2 v3 : Value) : World := (((w.setCell ⟨B, 0, none⟩ v0).setCell ⟨B, 1, none⟩ v1).setCell ⟨B, 2, none⟩ v2).setCell ⟨B, 3, none⟩ v3
theorem Ps.st4 {X : Rx} {w : World} {P : Pos} (h : Ps X w P) {B : Nat} (hne : X.b ≠ B) (hB : X.W.heap.size ≤ B) (v0 v1 v2 v3 : Value) : Ps X (st4 w B v0 v1 v2 v3) P := (((h.other hne hB 0 v0).other hne hB 1 v1).other hne hB 2 v2).other hne hB 3 v3
theorem Bux.st4 {b B : Nat} {w w' : World} (h : Bux b w w') (hB : w.heap.size ≤ B) (v0 v1 v2 v3 : Value) : Bux b w (st4 w' B v0 v1 v2 v3) := but_new (but_new (but_new (but_new h hB 0 v0) hB 1 v1) hB 2 v2) hB 3 v3
theorem Hi.st4 {P : Nat → Prop} {B : Nat} (hB : ∀ k, P k → k ≠ B) (w : World) (v0 v1 v2 v3 : Value) : Hi P w (st4 w B v0 v1 v2 v3) := ((((Hi.refl P w).set hB 0 v0).set hB 1 v1).set hB 2 v2).set hB 3 v3
theorem Rb.st4 {w : World} {B X : Nat} {vs : Array Value} {t : TypeId} (h : Rb w B vs t) (hne : B ≠ X) (v0 v1 v2 v3 : Value) : Rb (st4 w X v0 v1 v2 v3) B vs t := (((h.other hne 0 v0).other hne 1 v1).other hne 2 v2).other hne 3 v3
abbrev st5 (w : World) (B : Nat) (v0 v1 v2 v3 v4 : Value) : World := (st4 w B v0 v1 v2 v3).setCell ⟨B, 4, none⟩ v4
theorem Ps.st5 {X : Rx} {w : World} {P : Pos} (h : Ps X w P) {B : Nat} (hne : X.b ≠ B) (hB : X.W.heap.size ≤ B) (v0 v1 v2 v3 v4 : Value) : Ps X (st5 w B v0 v1 v2 v3 v4) P := (h.st4 hne hB v0 v1 v2 v3).other hne hB 4 v4
theorem Bux.st5 {b B : Nat} {w w' : World} (h : Bux b w w') (hB : w.heap.size ≤ B) (v0 v1 v2 v3 v4 : Value) : Bux b w (st5 w' B v0 v1 v2 v3 v4) := but_new (h.st4 hB v0 v1 v2 v3) hB 4 v4
theorem Hi.st5 {P : Nat → Prop} {B : Nat} (hB : ∀ k, P k → k ≠ B) (w : World) (v0 v1 v2 v3 v4 : Value) : Hi P w (st5 w B v0 v1 v2 v3 v4) := (Hi.st4 hB w v0 v1 v2 v3).set hB 4 v4
theorem Rb.st5 {w : World} {B X : Nat} {vs : Array Value} {t : TypeId} (h : Rb w B vs t) (hne : B ≠ X) (v0 v1 v2 v3 v4 : Value) : Rb (st5 w X v0 v1 v2 v3 v4) B vs t := (h.st4 hne v0 v1 v2 v3).other hne 4 v4
/-- what a part of a term answers -/
def TmRes (X : Rx) (w : World) (r : Out Tm) (e : Ending) (w' : World) : Prop :=
  ∃ o m xs ao n c t, e = .returned (.agg #[.int .i64 o, .int .i64 m, .string xs, .slice ao n c]) ∧ RdTn (Ge w.heap.size) w' t (.int .i64 o) (.int .i64 m) (.string xs) (.slice ao n c) ∧ Ps X w' r.pos ∧ Bux X.b w w' ∧ r.is t
/- the contracts, from N on -/
def FacC (X : Rx) (N : Nat) : Prop := ∀ w P r, Ps X w P → P.from N → GT X.ws .fac P r → Calls Tryz.prog 72 #[.pointer (some ⟨X.b, 0, none⟩)] w (TmRes X w r)
def ProC (X : Rx) (N : Nat) : Prop := ∀ w P r, Ps X w P → P.from N → GT X.ws .prod P r → Calls Tryz.prog 44 #[.pointer (some ⟨X.b, 0, none⟩)] w (TmRes X w r)
def SumC (X : Rx) (N : Nat) : Prop := ∀ w P r, Ps X w P → P.from N → GT X.ws .sum P r → Calls Tryz.prog 23 #[.pointer (some ⟨X.b, 0, none⟩)] w (TmRes X w r)
set_option maxRecDepth 100000 in
set_option maxHeartbeats 4000000 in
theorem product_step {X : Rx} {N : Nat} (F : FacC X N) : ProC X N := by
  intro w P r h hP hr
  obtain ⟨r0, hr0, hl⟩ := gt_prod hr
  have hbw := h.lt
  have hWw := h.below.size
  have hR1 := rb_new w zT 43
  have h1 := h.alloc (.cells zT 43)
  have hB1 : Bux X.b w (w.alloc (.cells zT 43)) := Bux.of (bal w _)
  have FC := mkHid (F _ _ _ h1 hP hr0)
  have hf0 := hr0.from hP
  have HL := mkHid hl
  have FF := mkHid F
  clear hr hl F hr0
  go_enter Tryz.func44, Tryz.ntmps44
  go_wp2_with (go_at_call 72; refine (FC.out).mono ?_; rintro e w2 ⟨o, m, xs, lo, ln, lc, x, rfl, hV2, h2, hC2, hx⟩; have hR2 := hR1.but hC2 (by omega); have hs1 : w.heap.size < w2.heap.size := (Array.getElem?_eq_some_iff.1 hR2).1)
  have hX3 := rb_new w2 #[.int .i64 o, .int .i64 m, .string xs, .slice lo ln lc] 43
  have h3 := h2.alloc (.cells #[.int .i64 o, .int .i64 m, .string xs, .slice lo ln lc] 43)
  have hR3 := hR2.keep (bal w2 (.cells #[.int .i64 o, .int .i64 m, .string xs, .slice lo ln lc] 43))
  have hU3 : Bux X.b w (w2.alloc (.cells #[.int .i64 o, .int .i64 m, .string xs, .slice lo ln lc] 43)) := (hB1.trans hC2).trans (Bux.of (bal w2 _))
  have hV3 : RdTn (fun k => w.heap.size < k ∧ k ≠ w2.heap.size) (w2.alloc (.cells #[.int .i64 o, .int .i64 m, .string xs, .slice lo ln lc] 43)) x (.int .i64 o) (.int .i64 m) (.string xs) (.slice lo ln lc) := by
    refine RdTn.keep (Hi.of (bal w2 _)) _ _ _ _ _ (RdTn.low (fun k hk (hg : _ ≤ k) => ?_) _ _ _ _ _ hV2)
    simp only [World.size_alloc] at hg
    exact ⟨by omega, by omega⟩
  have hlx := HL.out x hx
  go_loopw [] (fun wr => ∃ o m xs lo ln lc x P1, Rb wr w2.heap.size #[.int .i64 o, .int .i64 m, .string xs, .slice lo ln lc] 43 ∧ RdTn (fun k => w.heap.size < k ∧ k ≠ w2.heap.size) wr x (.int .i64 o) (.int .i64 m) (.string xs) (.slice lo ln lc) ∧ Ps X wr P1 ∧ P1.from N ∧ GT X.ws (.prodL x) P1 r ∧ Bux X.b w wr ∧ Rb wr w.heap.size zT 43) (fun wr => rdM X.b wr)
  case atStart => exact ⟨o, m, xs, lo, ln, lc, x, r0.pos, hX3, hV3, h3, hf0, hlx, hU3, hR3⟩
  case round =>
    have hbX : X.b ≠ w2.heap.size := by have := h2.lt; omega
    have hRX : w.heap.size < w2.heap.size := by omega
    have hWX : X.W.heap.size ≤ w2.heap.size := by omega
    clear hX3 h3 hR3 hU3 hV3 h2 hC2 hR2 h1 hR1 hB1 hV2 hx hlx HL FC hf0
    obtain ⟨o, m, xs, lo, ln, lc, x, P1, hX, hV, hS, hP1, hG, hU, hR⟩ := hrel
    have hXlt := (Array.getElem?_eq_some_iff.1 hX).1
    by_cases hst : P1.stands X.ws kStar
    · cases P1 with
      | bad y q => exact hst.elim
      | «at» p =>
        obtain ⟨r', hr', hl'⟩ := gt_prodL_yes hG hst
        have hlt := IsS.lt hst
        have hf' := hr'.from (N := p + 1) (Nat.le_refl _)
        have TC := mkHid (takes_yes (x := kStar) hS hst)
        have FC := mkHid (fun w5 h5 => FF.out w5 (.at (p + 1)) r' h5 (Nat.le_succ_of_le hP1) hr')
        have HL := mkHid hl'
        have hf2 := mkHid (hr'.from (N := N) (Nat.le_succ_of_le hP1))
        clear hr' hl' hG FF
        go_wp2_with (go_at_call 31; refine (TC.out).mono ?_; rintro e w4 ⟨rfl, h4, hC4⟩; have hX4 := hX.but hC4 (fun e => hbX e.symm); have hR4 := hR.but hC4 (by omega); have hU4 := hU.trans hC4; have hV4 := RdTn.keep (Hi.but hC4 (fun k hk => by omega)) _ _ _ _ _ hV; obtain ⟨x0, -⟩ := txcell hX4 0 _ rfl; obtain ⟨x1, -⟩ := txcell hX4 1 _ rfl; obtain ⟨x2, -⟩ := txcell hX4 2 _ rfl; obtain ⟨x3, -⟩ := txcell hX4 3 _ rfl)
        go_region_with (first
          | (go_at_call 72
             refine (FC.out _ ?_).mono ?_
             exact h4.drew
             rintro e w6 ⟨o2, m2, xs2, lo2, ln2, lc2, y, rfl, hY5, h6, hC6, hy⟩
             have hX6 := Rb.but (w := w4.drew) hX4 hC6 (fun e => hbX e.symm)
             have hR6 := Rb.but (w := w4.drew) hR4 hC6 (by omega)
             have hU6 := (but_drew hU4).trans hC6
             have hs6 : w2.heap.size < w4.heap.size := (Array.getElem?_eq_some_iff.1 hX4).1
             have hs7 : w4.heap.size ≤ w6.heap.size := hC6.size
             have hV6 := RdTn.keep (W := w4.drew) (Hi.but hC6 (fun k hk => by omega)) _ _ _ _ _ (RdTn.keep (Hi.of (Below.refl _ w4).drew) _ _ _ _ _ hV4)
             have hY6 : RdTn (fun k => w.heap.size < k ∧ k ≠ w2.heap.size) w6 y (.int .i64 o2) (.int .i64 m2) (.string xs2) (.slice lo2 ln2 lc2) := RdTn.low (fun k _ (hk : w4.heap.size ≤ k) => ⟨by omega, by omega⟩) _ _ _ _ _ hY5
             obtain ⟨z0, -⟩ := txcell hX6 0 _ rfl
             obtain ⟨z1, -⟩ := txcell hX6 1 _ rfl
             obtain ⟨z2, -⟩ := txcell hX6 2 _ rfl
             obtain ⟨z3, -⟩ := txcell hX6 3 _ rfl)
          | (go_at_call 45
             refine (combine_at _ _ _ _ _).mono ?_
             rintro e w7 ⟨rfl, hB7⟩
             have hX7 := (hX6.keep (bal w6 _)).keep hB7
             have hR7 := (hR6.keep (bal w6 _)).keep hB7
             have h7 := (h6.alloc _).keep hB7
             have hU7 := (hU6.trans (Bux.of (bal w6 _))).trans (Bux.of hB7)
             have hV7 := RdTn.keep (Hi.of hB7) _ _ _ _ _ (mk2 hV6 hY6 rfl ⟨by omega, by omega⟩ 5 0 emp ⟨by decide, by decide, sz_emp⟩)
             have hX8 := rb_four hX7 rfl (.int .i64 5) (.int .i64 0) (.string emp) (.slice (some ⟨w6.heap.size, 0, none⟩) 2 2)
             have h8 := h7.st4 hbX hWX (.int .i64 5) (.int .i64 0) (.string emp) (.slice (some ⟨w6.heap.size, 0, none⟩) 2 2)
             have hU8 := hU7.st4 (Nat.le_of_lt hRX) (.int .i64 5) (.int .i64 0) (.string emp) (.slice (some ⟨w6.heap.size, 0, none⟩) 2 2)
             have hV8 := RdTn.keep (Hi.st4 (fun k (hk : w.heap.size < k ∧ k ≠ w2.heap.size) => hk.2) w7 (.int .i64 5) (.int .i64 0) (.string emp) (.slice (some ⟨w6.heap.size, 0, none⟩) 2 2)) _ _ _ _ _ hV7
             have hR8 := hR7.st4 (X := w2.heap.size) (by omega) (.int .i64 5) (.int .i64 0) (.string emp) (.slice (some ⟨w6.heap.size, 0, none⟩) 2 2)
             obtain ⟨u0, v0⟩ := txcell hX7 0 _ rfl
             obtain ⟨u1, v1⟩ := txcell hX7 1 _ rfl
             obtain ⟨u2, v2⟩ := txcell hX7 2 _ rfl
             obtain ⟨u3, v3⟩ := txcell hX7 3 _ rfl))
        all_goals
          go_roundw
          case rel => exact ⟨_, _, _, _, _, _, _, ⟨5, 0, emp, some ⟨w6.heap.size, 0, none⟩, 2, 2, tMul x y, r'.pos, hX8, hV8, h8, hf2.out, HL.out y hy, hU8, hR8⟩, rfl⟩
          case measure => exact rdM_lt hS hlt h8 hf'
    · obtain ⟨hq, hi⟩ := gt_prodL_no hG hst
      have TC := mkHid (takes_no (x := kStar) hS (by decide) hst)
      clear FF hG hst
      go_wp2_with (go_at_call 31; refine (TC.out).mono ?_; rintro e w4 ⟨rfl, h4, hB4⟩; have hX4 := hX.keep hB4; have hR4 := hR.keep hB4; have hU4 := hU.trans (Bux.of hB4); have hV4 := RdTn.keep (Hi.of hB4) _ _ _ _ _ hV; obtain ⟨x0, -⟩ := txcell hX4 0 _ rfl; obtain ⟨x1, -⟩ := txcell hX4 1 _ rfl; obtain ⟨x2, -⟩ := txcell hX4 2 _ rfl; obtain ⟨x3, -⟩ := txcell hX4 3 _ rfl; obtain ⟨r0, g0⟩ := txcell hR4 0 _ rfl; obtain ⟨r1, g1⟩ := txcell hR4 1 _ rfl; obtain ⟨r2, g2⟩ := txcell hR4 2 _ rfl; obtain ⟨r3, g3⟩ := txcell hR4 3 _ rfl; have hRy := rb_four hR4 rfl (.int .i64 o) (.int .i64 m) (.string xs) (.slice lo ln lc); obtain ⟨k0, -⟩ := txcell hRy 0 _ rfl; obtain ⟨k1, -⟩ := txcell hRy 1 _ rfl; obtain ⟨k2, -⟩ := txcell hRy 2 _ rfl; obtain ⟨k3, -⟩ := txcell hRy 3 _ rfl)
      exact bodyPost_ret (v := .agg #[.int .i64 o, .int .i64 m, .string xs, .slice lo ln lc]) (by simp [results, Tryz.results44, go_sem, k0, k1, k2, k3]) rfl ⟨o, m, xs, lo, ln, lc, x, rfl, RdTn.low (fun k _ (hk : w.heap.size < k ∧ k ≠ w2.heap.size) => Nat.le_of_lt hk.1) _ _ _ _ _ (RdTn.keep (Hi.st4 (fun k (hk : w.heap.size < k ∧ k ≠ w2.heap.size) => by omega) w4 (.int .i64 o) (.int .i64 m) (.string xs) (.slice lo ln lc)) _ _ _ _ _ hV4), by rw [hq]; exact h4.st4 (by omega) hWw (.int .i64 o) (.int .i64 m) (.string xs) (.slice lo ln lc), hU4.st4 (Nat.le_refl _) (.int .i64 o) (.int .i64 m) (.string xs) (.slice lo ln lc), hi⟩
end Go.Proofs.YtabfhdmcljdjhaaGreatDoor.Gl
