/- Texts in brackets put together: their words, and what formula they are: plain mathematics. -/
import Derived.Test.YtabfhdmcljdjhaaDoorPaI
import Derived.Test.YtabfhdmcljdjhaaDoorPaG
namespace Go.Proofs.YtabfhdmcljdjhaaDoor.Gl
set_option linter.unusedVariables false
set_option linter.unusedSimpArgs false

/-- x stands in u from d on -/
structure AtT (u : ByteArray) (d : Nat) (x : ByteArray) : Prop where
  size : d + x.size ≤ u.size
  byte : ∀ j, j < x.size → bt u (d + j) = bt x j
theorem AtT.self (x : ByteArray) : AtT x 0 x := ⟨by omega, fun j _ => by rw [Nat.zero_add]⟩
theorem AtT.left {A B x : ByteArray} {d : Nat} (h : AtT A d x) : AtT (A ++ B) d x :=
  ⟨by rw [ByteArray.size_append]; have := h.size; omega, fun j hj => by rw [bt_app_left _ _ _ (by have := h.size; omega)]; exact h.byte j hj⟩
theorem AtT.right {A B x : ByteArray} {d : Nat} (h : AtT B d x) : AtT (A ++ B) (A.size + d) x :=
  ⟨by rw [ByteArray.size_append]; have := h.size; omega, fun j hj => by rw [Nat.add_assoc, bt_app_right _ _ _ (by have := h.size; omega)]; exact h.byte j hj⟩
theorem AtT.to {u x : ByteArray} {d d' : Nat} (h : AtT u d x) (e : d = d') : AtT u d' x := e ▸ h
theorem AtT.simk {u x : ByteArray} {d c : Nat} (h : AtT u d x) (hc : Sep c) (hn : bt u (d + x.size) = c) : SimK c u d x := ⟨hc, h.size, h.byte, .inr hn⟩
/-- a word ahead of a byte that ends words -/
theorem Lx.wordk {c k n : Nat} {u x v : ByteArray} {p : Nat} {ws : List Wd} {g : Option (Nat × Nat)} (h : SimK c u p x) (h0 : 0 < x.size) (ht : tok x 0 = .word k v n x.size) (hk : Lx u (p + x.size) ws g) : Lx u p (⟨k, v, n, p⟩ :: ws) g := by
  have := tok_simk h h0
  rw [ht, Nat.add_zero] at this
  exact .word (by have := h.size; omega) this hk
/-- a text in brackets -/
theorem Lx.brk {u s : ByteArray} {p : Nat} {a ws : List Wd} {g : Option (Nat × Nat)} (h0 : AtT u p kOpen) (h1 : AtT u (p + 1) s) (h2 : AtT u (p + 1 + s.size) kShut) (hs : Lx s 0 a none) (hk : Lx u (p + 1 + s.size + 1) ws g) :
    Lx u p (⟨2, kOpen, 0, p⟩ :: (a.map (Wd.move (p + 1)) ++ ⟨2, kShut, 0, p + 1 + s.size⟩ :: ws)) g := by
  have z1 : kOpen.size = 1 := rfl
  have z2 : kShut.size = 1 := rfl
  have s0 := h0.size
  have s2 := h2.size
  have b0 := h0.byte 0 (by decide)
  have b2 := h2.byte 0 (by decide)
  rw [Nat.add_zero] at b0 b2
  refine Lx.opens (by omega) b0 ?_
  have hk2 : SimK 41 u (p + 1) s := h1.simk sep_shut b2
  exact (hs.simk hk2 (Nat.zero_le _)).1 _ _ rfl (Lx.shuts (by omega) b2 hk)
theorem tk_of {t : Tk} {k v q : Nat} {x : ByteArray} (h : (match t with | .word k' y v' q' => k' == k && y.toList == x.toList && v' == v && q' == q | _ => false) = true) : t = .word k x v q := by
  split at h
  · simp only [Bool.and_eq_true, beq_iff_eq] at h
    obtain ⟨⟨⟨h1, h2⟩, h3⟩, h4⟩ := h
    rw [h1, toList_inj h2, h3, h4]
  · cases h
theorem tk_and : tok kAnd 0 = .word 2 kAnd 0 kAnd.size := tk_of (by decide +kernel)
theorem tk_or : tok kOr 0 = .word 2 kOr 0 kOr.size := tk_of (by decide +kernel)
theorem tk_to : tok kTo 0 = .word 2 kTo 0 kTo.size := tk_of (by decide +kernel)
theorem tk_iff : tok kIff 0 = .word 2 kIff 0 kIff.size := tk_of (by decide +kernel)
theorem tk_not : tok kNot 0 = .word 2 kNot 0 kNot.size := tk_of (by decide +kernel)
theorem tk_ex : tok kEx 0 = .word 2 kEx 0 kEx.size := tk_of (by decide +kernel)
theorem tk_all : tok kAll 0 = .word 2 kAll 0 kAll.size := tk_of (by decide +kernel)
theorem tk_comma : tok kComma 0 = .word 2 kComma 0 kComma.size := tk_of (by decide +kernel)
theorem tk_dot : tok kDot 0 = .word 2 kDot 0 kDot.size := tk_of (by decide +kernel)
abbrev kX : ByteArray := ⟨#[120]⟩
abbrev kY : ByteArray := ⟨#[121]⟩
abbrev kZ : ByteArray := ⟨#[122]⟩
theorem tk_x : tok kX 0 = .word 0 kX 0 kX.size := tk_of (by decide +kernel)
theorem tk_y : tok kY 0 = .word 0 kY 0 kY.size := tk_of (by decide +kernel)
theorem tk_z : tok kZ 0 = .word 0 kZ 0 kZ.size := tk_of (by decide +kernel)
/- a literal's parts -/
theorem AtT.cut {u L x : ByteArray} {d i : Nat} (h : AtT u d L) (hi : i + x.size ≤ L.size) (hx : ∀ j, j < x.size → bt L (i + j) = bt x j) : AtT u (d + i) x :=
  ⟨by have := h.size; omega, fun j hj => by rw [Nat.add_assoc, h.byte _ (by omega)]; exact hx j hj⟩
theorem AtT.bt {u L : ByteArray} {d i : Nat} (h : AtT u d L) (hi : i < L.size) : Gl.bt u (d + i) = Gl.bt L i := h.byte i hi
/-- what is between two brackets: a blank, a word, a blank; or the word alone -/
theorem Lx.joint {u x : ByteArray} {p : Nat} {ws : List Wd} {g : Option (Nat × Nat)} (hx : AtT u p x) (h0 : 0 < x.size) (ht : tok x 0 = .word 2 x 0 x.size) (hb : Gl.bt u (p + x.size) = 40 ∨ Gl.bt u (p + x.size) = 32) (hk : Lx u (p + x.size) ws g) : Lx u p (⟨2, x, 0, p⟩ :: ws) g := by
  rcases hb with hb | hb
  · exact Lx.wordk (hx.simk sep_open hb) h0 ht hk
  · exact Lx.wordk (hx.simk sep_blank hb) h0 ht hk
/- formulas: what stands where -/
theorem isS_at {pre post : List Wd} {w : Wd} (h : w.kind = 2) : IsS (pre ++ w :: post) pre.length w.text := by
  have := isS_right (l := pre) (r := w :: post) (i := 0) (x := w.text)
  exact this.2 (isS_head.2 ⟨h, rfl⟩)
/-- two parts in brackets with a joint of level n between -/
theorem two_whole {n : Nat} (hn : n < 4) {a b : List Wd} {f g : Fm} {wo wc wj wo' wc' : Wd} {k k' : Nat} (ho : wo.kind = 2 ∧ wo.text = kOpen) (hc : wc.kind = 2 ∧ wc.text = kShut) (hj : wj.kind = 2 ∧ wj.text = sgOf n) (ho' : wo'.kind = 2 ∧ wo'.text = kOpen) (hc' : wc'.kind = 2 ∧ wc'.text = kShut) (ha : Whole a f) (hb : Whole b g) :
    Whole (wo :: (a.map (Wd.move k) ++ wc :: wj :: wo' :: (b.map (Wd.move k') ++ wc' :: []))) (fPair (opOf n) f g) := by
  have e1 : (wo :: (a.map (Wd.move k) ++ wc :: wj :: wo' :: (b.map (Wd.move k') ++ wc' :: []))).length = a.length + 3 + (b.length + 2) := by simp; omega
  have u1 := un_br (pre := []) (post := wj :: wo' :: (b.map (Wd.move k') ++ wc' :: [])) (k := k) ho hc ha
  have u2 := un_br (pre := wo :: (a.map (Wd.move k) ++ [wc, wj])) (post := []) (k := k') ho' hc' hb
  have e2 : (wo :: (a.map (Wd.move k) ++ [wc, wj])).length = a.length + 3 := by simp
  have e3 : wo :: (a.map (Wd.move k) ++ [wc, wj]) ++ wo' :: (b.map (Wd.move k') ++ wc' :: []) = wo :: (a.map (Wd.move k) ++ wc :: wj :: wo' :: (b.map (Wd.move k') ++ wc' :: [])) := by simp
  have sj : IsS (wo :: (a.map (Wd.move k) ++ wc :: wj :: wo' :: (b.map (Wd.move k') ++ wc' :: []))) (a.length + 2) (sgOf n) := by
    have := isS_at (pre := wo :: (a.map (Wd.move k) ++ [wc])) (post := wo' :: (b.map (Wd.move k') ++ wc' :: [])) hj.1
    rw [hj.2] at this
    have e4 : (wo :: (a.map (Wd.move k) ++ [wc])).length = a.length + 2 := by simp
    have e5 : wo :: (a.map (Wd.move k) ++ [wc]) ++ wj :: wo' :: (b.map (Wd.move k') ++ wc' :: []) = wo :: (a.map (Wd.move k) ++ wc :: wj :: wo' :: (b.map (Wd.move k') ++ wc' :: [])) := by simp
    rwa [e4, e5] at this
  rw [e3, e2] at u2
  simp only [List.nil_append, List.length_nil, Nat.zero_add] at u1
  unfold Whole
  rw [e1]
  generalize wo :: (a.map (Wd.move k) ++ wc :: wj :: wo' :: (b.map (Wd.move k') ++ wc' :: [])) = W at u1 u2 sj e1
  have l1 : PF W (.lev (n + 1)) 0 (.ok (.f f) (a.length + 2)) := lev_un (by omega) u1 (noj_above hn sj)
  have l2 : PF W (.lev (n + 1)) (a.length + 2 + 1) (.ok (.f g) (a.length + 3 + (b.length + 2))) := lev_un (by omega) u2 (noj_end (by omega))
  have l3 := lev_two hn l1 sj l2 (by intro h; have := h.lt; omega)
  exact lev_up (Nat.zero_le _) (by omega) l3 (noj_end (by omega))
end Go.Proofs.YtabfhdmcljdjhaaDoor.Gl
