/- The writer's put. -/
import Derived.Test.YtncgmnijgdfenaaDoorShF
namespace Go.Proofs.YtncgmnijgdfenaaDoor.Gl
open Go Go.RowKit
set_option linter.unusedVariables false
set_option linter.unusedSimpArgs false

abbrev tbs (s : ByteArray) : List UInt8 := s.data.toList
abbrev ST : TypeId := 9
theorem Bw.lt {w : World} {b : Nat} {l : List UInt8} (h : Bw w b l) : b < w.heap.size := by
  rcases h with h | h <;> exact h.lt
theorem Bw.alloc {w : World} {b : Nat} {l : List UInt8} (h : Bw w b l) (o : Obj) : Bw (w.alloc o) b l := by
  rcases h with h | h
  · exact .inl (h.alloc o)
  · exact .inr (h.alloc o)
theorem Kw.blk {b k : Nat} {w w' : World} {vs : Array Value} {t : TypeId} {fz : Nat × Nat} (h : Kw b w w') (hk : w.heap[k]? = some (.cells vs t fz)) (hb : k ≠ b) (ht : t ≠ U8) : w'.heap[k]? = some (.cells vs t fz) :=
  h.2 k _ hk (fun e => hb (Option.some.inj e)) (fun c f e => ht (by cases e; rfl))
theorem tflat_len {T : List ByteArray} (k : Nat) : ((T.take k).flatMap tbs).length ≤ (T.flatMap tbs).length := by
  have e : T.flatMap tbs = (T.take k).flatMap tbs ++ (T.drop k).flatMap tbs := by rw [← List.flatMap_append, List.take_append_drop]
  rw [e, List.length_append]
  omega
set_option maxHeartbeats 1000000 in
theorem put_at (b g : Nat) (l : List UInt8) (T : List ByteArray) (w : World) (h : Bw w b l) (hgb : g ≠ b) (hg : w.heap[g]? = some (.cells (T.map Value.string).toArray ST (0, 0))) (hn : T.length ≤ 1000) (hlen : l.length + (T.flatMap tbs).length ≤ 140737488355328) :
    Calls Tryd.prog 25 #[.pointer (some ⟨b, 0, none⟩), .slice (some ⟨g, 0, none⟩) T.length T.length] w fun e w' => e = .returned (.tuple #[]) ∧ Bw w' b (l ++ T.flatMap tbs) ∧ Kw b w w' := by
  have HB0 := mkHid h
  have HG := mkHid hg
  have HL := mkHid hlen
  clear h hg hlen
  go_enter Tryd.func25, Tryd.ntmps25
  go_wp2
  go_loopw [8] (fun i wr => ∃ k : Nat, k ≤ T.length ∧ i = .int .i64 k ∧ Hid (Bw wr b (l ++ (T.take k).flatMap tbs)) ∧ Hid (Kw b w wr)) (fun i _ => T.length - (intOf i).toNat)
  case atStart => exact ⟨0, Nat.zero_le _, rfl, mkHid (by simpa using HB0.out), mkHid (Kw.refl b w)⟩
  case round =>
    obtain ⟨k, hk, rfl, hB, hK⟩ := hrel
    by_cases hlt : k < T.length
    · have hgr := mkHid (hK.out.blk HG.out hgb (by decide))
      have hc : wr.cell? ⟨g, k, none⟩ = some (.string T[k]) := by
        rw [Lib.cell_of_heap hgr.out]
        simp [hlt]
      have hts : (T.take (k + 1)).flatMap tbs = (T.take k).flatMap tbs ++ tbs T[k] := by
        rw [List.take_succ_eq_append_getElem hlt, List.flatMap_append]
        simp
      have hl1 := mkHid (tflat_len (T := T) (k + 1))
      rw [hts, List.length_append] at hl1
      have WS := mkHid (ws_at b (l ++ (T.take k).flatMap tbs) T[k] wr hB.out (by
        have h1 := hl1.out
        have h2 := HL.out
        have h3 : (tbs T[k]).length = T[k].size := rfl
        rw [List.length_append]
        omega))
      have HT := mkHid hts
      clear hts
      go_wp2_with (go_at_call 38; refine WS.out.mono ?_; rintro e w2 ⟨rfl, hb2, hk2⟩)
      go_roundw
      case rel => exact ⟨k + 1, by omega, by go_num, mkHid (by rw [HT.out, ← List.append_assoc]; exact hb2), mkHid (hK.out.trans hk2)⟩
      case measure => simp [intOf]; omega
    · go_wp2
      go_end0
      have hk' : k = T.length := by omega
      have h1 := hB.out
      rw [hk', List.take_length] at h1
      exact ⟨rfl, h1, hK.out⟩
/-- texts just laid in a row -/
theorem put_lit (b : Nat) (l : List UInt8) (T : List ByteArray) (w : World) (h : Bw w b l) (hn : T.length ≤ 1000) (hlen : l.length + (T.flatMap tbs).length ≤ 140737488355328) :
    Calls Tryd.prog 25 #[.pointer (some ⟨b, 0, none⟩), .slice (some ⟨w.heap.size, 0, none⟩) T.length T.length] (w.alloc (.cells (T.map Value.string).toArray ST)) fun e w' => e = .returned (.tuple #[]) ∧ Bw w' b (l ++ T.flatMap tbs) ∧ Kw b w w' := by
  have hlt := h.lt
  exact (put_at b w.heap.size l T _ (h.alloc _) (by omega) (heap_alloc_new w _) hn hlen).mono fun e w' ⟨h1, h2, h3⟩ => ⟨h1, h2, ((Kw.refl b w).alloc (by omega) _).trans h3⟩
abbrev PutC (b : Nat) (w : World) (g : Nat) (vs : Array Value) (n : Nat) (l : List UInt8) : Prop :=
  Calls Tryd.prog 25 #[.pointer (some ⟨b, 0, none⟩), .slice (some ⟨g, 0, none⟩) n n] (w.alloc (.cells vs ST)) fun e w' => e = .returned (.tuple #[]) ∧ Bw w' b l ∧ Kw b w w'
theorem put1 {b : Nat} {l : List UInt8} {w : World} (h : Bw w b l) (x : ByteArray) (hlen : l.length + x.size ≤ 140737488355328) {g : Nat} (hg : g = w.heap.size) : PutC b w g #[.string x] 1 (l ++ tbs x) := by
  subst hg
  have := put_lit b l [x] w h (by simp) (by simpa using hlen)
  simpa using this
theorem put2 {b : Nat} {l : List UInt8} {w : World} (h : Bw w b l) (x y : ByteArray) (hlen : l.length + (x.size + y.size) ≤ 140737488355328) {g : Nat} (hg : g = w.heap.size) : PutC b w g #[.string x, .string y] 2 (l ++ (tbs x ++ tbs y)) := by
  subst hg
  have := put_lit b l [x, y] w h (by simp) (by simpa using hlen)
  simpa using this
theorem put3 {b : Nat} {l : List UInt8} {w : World} (h : Bw w b l) (x y z : ByteArray) (hlen : l.length + (x.size + (y.size + z.size)) ≤ 140737488355328) {g : Nat} (hg : g = w.heap.size) : PutC b w g #[.string x, .string y, .string z] 3 (l ++ (tbs x ++ (tbs y ++ tbs z))) := by
  subst hg
  have := put_lit b l [x, y, z] w h (by simp) (by simpa using hlen)
  simpa using this
end Go.Proofs.YtncgmnijgdfenaaDoor.Gl
