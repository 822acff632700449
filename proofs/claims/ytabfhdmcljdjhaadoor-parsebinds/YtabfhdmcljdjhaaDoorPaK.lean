/- Texts as rows of parts; the words of texts in brackets: plain mathematics. -/
import Derived.Test.YtabfhdmcljdjhaaDoorPaJ
namespace Go.Proofs.YtabfhdmcljdjhaaDoor.Gl
set_option linter.unusedVariables false
set_option linter.unusedSimpArgs false

/-- the parts stand in u one behind the other, from d to e -/
def Row (u : ByteArray) : Nat → List ByteArray → Nat → Prop
  | d, [], e => d = e
  | d, x :: l, e => AtT u d x ∧ Row u (d + x.size) l e
theorem Row.self (x : ByteArray) : Row x 0 [x] x.size := ⟨AtT.self x, by show 0 + x.size = x.size; omega⟩
theorem Row.left {A B : ByteArray} : ∀ {l : List ByteArray} {d e : Nat}, Row A d l e → Row (A ++ B) d l e := by
  intro l
  induction l with
  | nil => intro d e h; exact h
  | cons x l ih => intro d e h; exact ⟨h.1.left, ih h.2⟩
theorem Row.right {A B : ByteArray} : ∀ {l : List ByteArray} {d e : Nat}, Row B d l e → Row (A ++ B) (A.size + d) l (A.size + e) := by
  intro l
  induction l with
  | nil => intro d e h; have : d = e := h; show A.size + d = A.size + e; omega
  | cons x l ih => intro d e h; refine ⟨h.1.right, ?_⟩; rw [Nat.add_assoc]; exact ih h.2
theorem Row.join {u : ByteArray} : ∀ {l : List ByteArray} {d e : Nat} {m : List ByteArray} {f : Nat}, Row u d l e → Row u e m f → Row u d (l ++ m) f := by
  intro l
  induction l with
  | nil => intro d e m f h k; have : d = e := h; rw [this]; exact k
  | cons x l ih => intro d e m f h k; exact ⟨h.1, ih h.2 k⟩
theorem Row.app {A B : ByteArray} {l m : List ByteArray} (h : Row A 0 l A.size) (k : Row B 0 m B.size) : Row (A ++ B) 0 (l ++ m) (A ++ B).size := by
  have h2 := k.right (A := A)
  rw [Nat.add_zero] at h2
  rw [ByteArray.size_append]
  exact h.left.join h2
theorem Row.of_eq {A B : ByteArray} {l : List ByteArray} (e : A = B) (h : Row B 0 l B.size) : Row A 0 l A.size := e ▸ h
theorem Row.lt {u : ByteArray} {d e : Nat} {x : ByteArray} {l : List ByteArray} (h : Row u d (x :: l) e) (hx : 0 < x.size) : Gl.bt u d = Gl.bt x 0 ∧ d < u.size := by
  have := h.1.byte 0 hx
  rw [Nat.add_zero] at this
  exact ⟨this, by have := h.1.size; omega⟩
theorem Row.done {u : ByteArray} {d : Nat} (h : Row u d [] u.size) : Lx u d [] none := .done (by have : d = u.size := h; omega)
theorem Row.blank {u : ByteArray} {d e : Nat} {l : List ByteArray} {ws : List Wd} {g : Option (Nat × Nat)} (h : Row u d (blk :: l) e) (k : ∀ d', Row u d' l e → Lx u d' ws g) : Lx u d ws g := by
  obtain ⟨h1, h2⟩ := h.lt (by decide)
  exact Lx.blanks h2 h1 (k _ h.2)
/-- the words of a row of parts: what each part gives -/
inductive Pt where
  | b
  | w (k : Nat) (x : ByteArray)
  | br (s : ByteArray) (a : List Wd)
def Pt.parts : Pt → List ByteArray
  | .b => [blk]
  | .w _ x => [x]
  | .br s _ => [kOpen, s, kShut]
def Pt.words (d : Nat) : Pt → List Wd
  | .b => []
  | .w k x => [⟨k, x, 0, d⟩]
  | .br s a => ⟨2, kOpen, 0, d⟩ :: (a.map (Wd.move (d + 1)) ++ [⟨2, kShut, 0, d + 1 + s.size⟩])
def Pt.len : Pt → Nat
  | .b => 1
  | .w _ x => x.size
  | .br s _ => 1 + s.size + 1
def wordsOf (d : Nat) : List Pt → List Wd
  | [] => []
  | p :: l => p.words d ++ wordsOf (d + p.len) l
/-- how a part begins -/
def Pt.head : Pt → Nat
  | .b => 32
  | .w _ x => Gl.bt x 0
  | .br _ _ => 40
/-- each part is right: a word ends by what follows -/
def Rt : List Pt → Prop
  | [] => True
  | .b :: l => Rt l
  | .w k x :: l => 0 < x.size ∧ tok x 0 = .word k x 0 x.size ∧ (∃ p m, l = p :: m ∧ Sep p.head ∧ (∀ y z, p = .w y z → 0 < z.size)) ∧ Rt l
  | .br s a :: l => Lx s 0 a none ∧ Rt l
theorem row_words {u : ByteArray} : ∀ {l : List Pt} {d : Nat}, Rt l → Row u d (l.flatMap Pt.parts) u.size → Lx u d (wordsOf d l) none := by
  intro l
  induction l with
  | nil => intro d _ h; exact Row.done h
  | cons p l ih =>
    intro d hr h
    cases p with
    | b =>
      have h' : Row u d (blk :: l.flatMap Pt.parts) u.size := h
      obtain ⟨h1, h2⟩ := h'.lt (by decide)
      exact Lx.blanks h2 h1 (ih hr h'.2)
    | w k x =>
      obtain ⟨h0, ht, ⟨p, m, rfl, hs, hp⟩, hr'⟩ := hr
      have h' : Row u d (x :: (p :: m).flatMap Pt.parts) u.size := h
      have hn : Gl.bt u (d + x.size) = p.head := by
        cases p with
        | b => exact (Row.lt (l := m.flatMap Pt.parts) (x := blk) h'.2 (by decide)).1
        | w y z => exact (Row.lt (l := m.flatMap Pt.parts) (x := z) h'.2 (hp y z rfl)).1
        | br s a => exact (Row.lt (l := s :: kShut :: m.flatMap Pt.parts) (x := kOpen) h'.2 (by decide)).1
      exact Lx.wordk (h'.1.simk hs hn) h0 ht (ih hr' h'.2)
    | br s a =>
      obtain ⟨hs, hr'⟩ := hr
      have h' : Row u d (kOpen :: s :: kShut :: l.flatMap Pt.parts) u.size := h
      have z1 : kOpen.size = 1 := rfl
      have z2 : kShut.size = 1 := rfl
      have hk := ih (d := d + (1 + s.size + 1)) hr' (by have := h'.2.2.2; rw [z1, z2] at this; rw [show d + (1 + s.size + 1) = d + 1 + s.size + 1 by omega]; exact this)
      have a1 := h'.2.1
      have a2 := h'.2.2.1
      rw [z1] at a1 a2
      rw [show d + (1 + s.size + 1) = d + 1 + s.size + 1 by omega] at hk
      have := Lx.brk h'.1 a1 a2 hs hk
      have e : wordsOf d (.br s a :: l) = ⟨2, kOpen, 0, d⟩ :: (a.map (Wd.move (d + 1)) ++ ⟨2, kShut, 0, d + 1 + s.size⟩ :: wordsOf (d + 1 + s.size + 1) l) := by
        show (Pt.br s a).words d ++ wordsOf (d + (1 + s.size + 1)) l = _
        rw [show d + (1 + s.size + 1) = d + 1 + s.size + 1 by omega]
        simp [Pt.words]
      rw [e]
      exact this
end Go.Proofs.YtabfhdmcljdjhaaDoor.Gl
