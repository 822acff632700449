/- Two trees whose nodes are the same are the same: plain mathematics. -/
import Derived.Test.YtabfhdmcljdjhaaDoorNdK
namespace Go.Proofs.YtabfhdmcljdjhaaDoor.Gl
set_option linter.unusedVariables false

theorem inj_TL {a : List Tm} (ih : ∀ t ∈ a, ∀ t' d r r', ndT t d ++ r = ndT t' d ++ r' → t = t' ∧ r = r') (d : Int) : ∀ a' r r', a.length = a'.length → ndTL a d ++ r = ndTL a' d ++ r' → a = a' ∧ r = r' := by
  induction a with
  | nil =>
    intro a' r r' hl h
    cases a' with
    | nil => rw [ndTL] at h; exact ⟨rfl, by simpa using h⟩
    | cons t' a' => simp at hl
  | cons t a iha =>
    intro a' r r' hl h
    cases a' with
    | nil => simp at hl
    | cons t' a' =>
      rw [ndTL, ndTL, List.append_assoc, List.append_assoc] at h
      obtain ⟨rfl, h2⟩ := ih t (List.mem_cons_self ..) _ _ _ _ h
      obtain ⟨rfl, h3⟩ := iha (fun u hu => ih u (List.mem_cons_of_mem _ hu)) a' r r' (by simpa using hl) h2
      exact ⟨rfl, h3⟩
theorem inj_T : ∀ t t' d r r', ndT t d ++ r = ndT t' d ++ r' → t = t' ∧ r = r' := by
  refine Tm.ind (fun o n x a ih t' d r r' h => ?_)
  obtain ⟨o', n', x', a'⟩ := t'
  rw [ndT, ndT, List.cons_append, List.cons_append, List.cons.injEq] at h
  obtain ⟨h1, h2⟩ := h
  simp only [headT, Nd.mk.injEq] at h1
  obtain ⟨-, -, -, rfl, rfl, rfl, -, hl⟩ := h1
  obtain ⟨rfl, h3⟩ := inj_TL ih _ _ _ _ hl h2
  exact ⟨rfl, h3⟩
theorem inj_FL {a : List Fm} (ih : ∀ t ∈ a, ∀ t' d r r', ndF t d ++ r = ndF t' d ++ r' → t = t' ∧ r = r') (d : Int) : ∀ a' r r', a.length = a'.length → ndFL a d ++ r = ndFL a' d ++ r' → a = a' ∧ r = r' := by
  induction a with
  | nil =>
    intro a' r r' hl h
    cases a' with
    | nil => rw [ndFL] at h; exact ⟨rfl, by simpa using h⟩
    | cons t' a' => simp at hl
  | cons t a iha =>
    intro a' r r' hl h
    cases a' with
    | nil => simp at hl
    | cons t' a' =>
      rw [ndFL, ndFL, List.append_assoc, List.append_assoc] at h
      obtain ⟨rfl, h2⟩ := ih t (List.mem_cons_self ..) _ _ _ _ h
      obtain ⟨rfl, h3⟩ := iha (fun u hu => ih u (List.mem_cons_of_mem _ hu)) a' r r' (by simpa using hl) h2
      exact ⟨rfl, h3⟩
theorem inj_F : ∀ t t' d r r', ndF t d ++ r = ndF t' d ++ r' → t = t' ∧ r = r' := by
  refine Fm.ind (fun o x m t a ih t' d r r' h => ?_)
  obtain ⟨o', x', m', t', a'⟩ := t'
  rw [ndF, ndF, List.cons_append, List.cons_append, List.cons.injEq] at h
  obtain ⟨h1, h2⟩ := h
  simp only [headF, Nd.mk.injEq] at h1
  obtain ⟨-, -, rfl, -, rfl, rfl, hl, hl2⟩ := h1
  rw [List.append_assoc, List.append_assoc] at h2
  obtain ⟨rfl, h3⟩ := inj_TL (fun u _ => inj_T u) _ _ _ _ hl h2
  obtain ⟨rfl, h4⟩ := inj_FL ih _ _ _ _ hl2 h3
  exact ⟨rfl, h4⟩
theorem nd_inj {f g : Fm} (h : ndF f 1 = ndF g 1) : f = g := by
  have := inj_F f g 1 [] [] (by rw [h])
  exact this.1
end Go.Proofs.YtabfhdmcljdjhaaDoor.Gl
