/- A text cut where a word begins has the words ahead of it: plain mathematics. -/
import Derived.Test.YtabfhdmcljdjhaaDoorLxF
namespace Go.Proofs.YtabfhdmcljdjhaaDoor.Gl
set_option linter.unusedVariables false

theorem Lx.cutw {s : ByteArray} {p : Nat} {ws : List Wd} {f : Option (Nat × Nat)} (h : Lx s p ws f) : ∀ i w, ws[i]? = some w → Lx (s.extract 0 w.byte) p (ws.take i) none := by
  induction h with
  | done => intro i w hw; simp at hw
  | bad a b => intro i w hw; simp at hw
  | @blank p ws f a b k ih =>
    intro i w hw
    have hk := (k.bd).1 w (List.mem_of_getElem? hw)
    have hle := hk.1.le
    have hs : w.byte ≤ s.size := by omega
    have hz : (s.extract 0 w.byte).size = w.byte := by rw [size_win s 0 _ hs]; omega
    obtain ⟨_, hbl⟩ := blank_bd a b
    have e0 := rd_cut s w.byte p hs (by rw [(blank_one hbl).1]; exact hle) (by omega)
    refine .blank (by omega) ?_ (ih i w hw)
    unfold tok
    rw [e0, if_pos hbl]
  | @word p kd t v q ws f a b k ih =>
    intro i w hw
    cases i with
    | zero =>
      simp at hw
      subst hw
      refine .done ?_
      rw [size_win s 0 _ (by show p ≤ s.size; omega)]
      show p - 0 ≤ p
      omega
    | succ i =>
      have hw' : ws[i]? = some w := by simpa using hw
      have hk := (k.bd).1 w (List.mem_of_getElem? hw')
      have hle := hk.1.le
      have hs : w.byte ≤ s.size := by omega
      have hz : (s.extract 0 w.byte).size = w.byte := by rw [size_win s 0 _ hs]; omega
      have hto := tok_to a b
      have h0 : tok s (0 + p) = .word kd t v q := by rw [Nat.zero_add]; exact b
      have ht := tok_win (a := 0) (i := p) hs (by omega) h0 hle hk.1
      rw [Tk.move_zero] at ht
      rw [List.take_succ_cons]
      exact .word (by omega) ht (ih i w hw')
end Go.Proofs.YtabfhdmcljdjhaaDoor.Gl
