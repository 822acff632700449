/- Words: the walk. -/
import Derived.Test.YtncgmnijgdfenaaGreatDoorLxI
import Derived.Lib.OthersKept
namespace Go.Proofs.YtncgmnijgdfenaaGreatDoor.Gl
open Go.RowKit
set_option linter.unusedVariables false

def Ans (s : ByteArray) (a : List Wd) (f : Option (Nat × Nat)) (c p k : Nat) (ws : List FW) : Prop :=
  (f = none ∧ c = 0 ∧ p = 0 ∧ k = 0 ∧ ws = a.map (full s)) ∨ (f = some (c, p) ∧ k = cnt (s.extract 0 p) ∧ ws = [])
theorem owns_turn {w w' : World} {base base' : Nat} {e : TypeId} {size : Nat} {v : Value} {n : Nat} {xs : List Value} (h : w.ownsRow base e size v n xs) (hb : base' ≤ base) (hh : ∀ g, base ≤ g → w'.heap[g]? = w.heap[g]?) : w'.ownsRow base' e size v n xs := by
  obtain ⟨h1, h2⟩ := h
  refine ⟨h1, ?_⟩
  rcases h2 with h2 | ⟨g, cap, cur, a, b, c, d⟩
  · exact .inl h2
  · exact .inr ⟨g, cap, cur, a, by omega, by rw [hh g b]; exact c, d⟩
theorem res_of {w : World} {b : Nat} {x y z : Value} {t : TypeId} (h : w.heap[b]? = some (.cells #[x, y, z] t (0, 0))) :
    w.cell? ⟨b, 0, none⟩ = some x ∧ w.cell? ⟨b, 1, none⟩ = some y ∧ w.cell? ⟨b, 2, none⟩ = some z ∧ w.frozen? ⟨b, 0, none⟩ = false ∧ w.frozen? ⟨b, 1, none⟩ = false ∧ w.frozen? ⟨b, 2, none⟩ = false := by
  simp [World.cell?, World.frozen?, h]
theorem res_al {w : World} {b : Nat} {x y z : Value} {t : TypeId} (h : w.heap[b]? = some (.cells #[x, y, z] t (0, 0))) :
    (∀ ob, (w.alloc ob).cell? ⟨b, 0, none⟩ = some x) ∧ (∀ ob, (w.alloc ob).cell? ⟨b, 1, none⟩ = some y) ∧ (∀ ob, (w.alloc ob).cell? ⟨b, 2, none⟩ = some z) ∧ (∀ ob, (w.alloc ob).frozen? ⟨b, 0, none⟩ = false) ∧ (∀ ob, (w.alloc ob).frozen? ⟨b, 1, none⟩ = false) ∧ ∀ ob, (w.alloc ob).frozen? ⟨b, 2, none⟩ = false := by
  have hl : b < w.heap.size := (Array.getElem?_eq_some_iff.1 h).1
  have key : ∀ ob, (w.alloc ob).heap[b]? = some (.cells #[x, y, z] t (0, 0)) := fun ob => (heap_alloc_old _ _ hl).trans h
  exact ⟨fun ob => (res_of (key ob)).1, fun ob => (res_of (key ob)).2.1, fun ob => (res_of (key ob)).2.2.1, fun ob => (res_of (key ob)).2.2.2.1, fun ob => (res_of (key ob)).2.2.2.2.1, fun ob => (res_of (key ob)).2.2.2.2.2⟩
theorem owns_nil (w : World) (base : Nat) (e : TypeId) (size : Nat) : w.ownsRow base e size (.slice none 0 0) 0 [] := ⟨by simp, .inl ⟨rfl, rfl⟩⟩
theorem words_long (s : ByteArray) (w : World) (hs : 4096 < s.size) (h63 : s.size ≤ 9223372036854775807) :
    Calls Tryz.prog 33 #[.string s] w fun e w' => ∃ v, e = .returned (.tuple #[v, fau 70 0 0]) ∧ w'.ownsRow w.heap.size 116 5 v 0 [] ∧ Below w.heap.size w w' := by
  have h4 : (4096 : Int) < (s.size : Int) := by omega
  go_enter Tryz.func33, Tryz.ntmps33
  go_wp2
  refine bodyPost_ret (v := .tuple #[.slice none 0 0, fau 70 0 0]) (by simp [results, Tryz.results33, go_sem]) rfl ⟨_, rfl, owns_nil _ _ _ _, ?_⟩
  repeat refine Below.setCell ?_ (by simp) _
  exact bta (Below.refl _ _) _
theorem cell_new5 (W : World) (kd v p k : Nat) (tx : ByteArray) (t : TypeId) (b : Nat) (hb : W.heap.size = b) (i : Nat) (hi : i < 5) : (W.alloc (.cells #[.int .i64 kd, .string tx, .int .i64 v, .int .i64 p, .int .i64 k] t)).cell? ⟨b, i, none⟩ = (⟨kd, tx, v, p, k⟩ : FW).cells[i]? := by
  subst hb
  match i, hi with
  | 0, _ => simp [FW.cells]
  | 1, _ => simp [FW.cells]
  | 2, _ => simp [FW.cells]
  | 3, _ => simp [FW.cells]
  | 4, _ => simp [FW.cells]
theorem tok_code {s : ByteArray} {p c : Nat} (h : tok s p = .bad c) : c ≠ 0 := by
  rcases tok_cases s p with ⟨_, e⟩ | ⟨hbl, ⟨_, e⟩ | ⟨hok, ⟨_, ⟨_, e⟩ | ⟨_, _, e⟩ | ⟨_, _, e⟩⟩ | ⟨_, _, ⟨_, e⟩ | ⟨_, e⟩⟩ | ⟨_, _, _, e⟩ | ⟨_, _, _, ⟨_, e⟩ | ⟨hne, e⟩⟩⟩⟩
  all_goals rw [h] at e
  all_goals cases e
  all_goals decide
theorem own_keep {w w' : World} {base : Nat} {e : TypeId} {size : Nat} {v : Value} {n : Nat} {xs : List Value} (h : w.ownsRow base e size v n xs) (hb : Below w.heap.size w w') : w'.ownsRow base e size v n xs := by
  obtain ⟨h1, h2⟩ := h
  refine ⟨h1, ?_⟩
  rcases h2 with h2 | ⟨g, cap, cur, a, b, c, d⟩
  · exact .inl h2
  · exact .inr ⟨g, cap, cur, a, b, by rw [hb.block g (Array.getElem?_eq_some_iff.1 c).1]; exact c, d⟩
set_option maxHeartbeats 600000 in
theorem words_at (s : ByteArray) (a : List Wd) (f : Option (Nat × Nat)) (w : World) (hS : Sg w) (hs : s.size ≤ 4096) (h : Lx s 0 a f) :
    Calls Tryz.prog 33 #[.string s] w fun e w' => ∃ (v : Value) (c p k : Nat) (ws : List FW), e = .returned (.tuple #[v, fau c p k]) ∧ Ans s a f c p k ws ∧ w'.ownsRow w.heap.size 116 5 v ws.length (ws.flatMap FW.cells) ∧ Below w.heap.size w w' := by
  obtain ⟨g, hg⟩ := good_is s
  have GD : Hid (∀ w, Calls Tryz.prog 53 #[.string s] w fun e w' => e = .returned (.int .i64 g) ∧ Below w.heap.size w w') := fun w => good_at s g w (by omega) hg
  have HG : Hid (IsGood s g) := hg
  have HL : Hid (a.length ≤ 4096) := Nat.le_trans h.len hs
  have BL : Hid (∀ (r : Nat) w, Calls Tryz.prog 54 #[.int .i32 r] w fun e w' => e = .returned (.bool (blB (r : Nat))) ∧ w = w') := fun r w => blank_at _ w
  have ST0 : Hid (Stand s a f 0 0 0 []) := Stand.zero h
  have h4 : decide (4096 < s.size) = false := decide_eq_false (by omega)
  clear hg h
  go_enter Tryz.func33, Tryz.ntmps33
  go_wp2_with (go_at_call 53; refine (GD.out _).mono ?_; rintro e w1 ⟨rfl, hB1⟩)
  have hres0 : w1.heap[w.heap.size]? = some (.cells #[.int .i64 0, .int .i64 0, .int .i64 0] 34 (0, 0)) := by
    rw [hB1.block _ (by simp)]; exact heap_alloc_new _ _
  have hlt1 : w.heap.size < w1.heap.size := by have := hB1.size; simp at this; omega
  have hb1 : Below w.heap.size w w1 := ba2 hB1
  go_loopw [4, 6, 7] (fun ws ch en wr => ∃ (k p e : Nat) (c : Int) (A : List Wd), wr.ownsRow (w1.heap.size + 1) 116 5 ws A.length ((A.map (full s)).flatMap FW.cells) ∧ ch = .int .i64 c ∧ c + 1 = (k : Int) ∧ en = .int .i64 e ∧ wr.heap[w1.heap.size]? = some (.stringIter s p) ∧ wr.heap[w.heap.size]? = some (.cells #[.int .i64 0, .int .i64 0, .int .i64 0] 34 (0, 0)) ∧ Below w.heap.size w wr ∧ Hid (Stand s a f k p e A)) (fun _ _ _ wr => s.size - wr.iterPos w1.heap.size)
  case atStart => exact ⟨0, 0, 0, -1, [], owns_nil _ _ _ _, rfl, by omega, rfl, heap_alloc_new _ _, (heap_alloc_old _ _ hlt1).trans hres0, bta hb1 _, ST0⟩
  case round =>
    obtain ⟨k, p, e, c, A, hO, rfl, hck, rfl, hit, hres, hBr, HST⟩ := hrel
    have hle := HST.out.le
    by_cases hlt : p < s.size
    · obtain ⟨hb1, hb2, hb3⟩ := rd_bd s p hlt
      have hnx : ∀ ty, (Instr.next (.pointer (some ⟨w1.heap.size, 0, none⟩)) true ty).run Tryz.prog wr = .ok (.tuple #[.bool true, .int .i64 p, .int .i32 ((rdS s p).1 : Nat)]) (wr.iterAt w1.heap.size s (p + (rdS s p).2.1)) := fun ty => Lib.run_next_any_at (P := Tryz.prog) wr w1.heap.size s p ty hit hlt
      have hO2 := ownsRow_iterAt hO (k := w1.heap.size) (by omega) s (p + (rdS s p).2.1)
      have hit2 := Lib.iterAt_heap wr w1.heap.size s p (p + (rdS s p).2.1) hit
      have hres2 : (wr.iterAt w1.heap.size s (p + (rdS s p).2.1)).heap[w.heap.size]? = some (.cells #[.int .i64 0, .int .i64 0, .int .i64 0] 34 (0, 0)) := by
        rw [Lib.iterAt_other _ _ _ _ _ (by omega)]; exact hres
      have hB2 := Lib.below_iterAt hBr (k := w1.heap.size) (by omega) s (p + (rdS s p).2.1)
      have hm1 : wr.iterPos w1.heap.size = p := iterPos_of hit
      have hk4 : k ≤ 4096 := by omega
      have hpl : p < p + (rdS s p).2.1 := by omega
      by_cases he : p < e
      · have HN : Hid (Stand s a f (k + 1) (p + (rdS s p).2.1) e A) := HST.out.skip hlt he
        generalize wr.iterAt w1.heap.size s (p + (rdS s p).2.1) = W2 at hnx hO2 hit2 hres2 hB2
        generalize (rdS s p).1 = r at hnx
        generalize p + (rdS s p).2.1 = p2 at *
        clear HG HL BL ST0 HST GD hO hit hres hBr
        go_wp2
        go_roundw
        case rel => exact ⟨k + 1, p2, e, k, A, hO2, rfl, by omega, rfl, hit2, hres2, hB2, HN⟩
        case measure => rw [iterPos_of hit2, hm1]; omega
      · have he' : decide (p < e) = false := decide_eq_false he
        cases hbl : blB ((rdS s p).1 : Nat) with
        | true =>
          have HN : Hid (Stand s a f (k + 1) (p + (rdS s p).2.1) e A) := HST.out.blank hlt (by omega) hbl
          have B0 : Hid (∀ w, Calls Tryz.prog 54 #[.int .i32 ((rdS s p).1 : Nat)] w fun e w' => e = .returned (.bool true) ∧ w = w') := fun w => by rw [← hbl]; exact BL.out _ w
          generalize wr.iterAt w1.heap.size s (p + (rdS s p).2.1) = W2 at hnx hO2 hit2 hres2 hB2
          generalize p + (rdS s p).2.1 = p2 at *
          clear hbl
          generalize (rdS s p).1 = r at hnx B0
          clear HG HL BL ST0 HST GD hO hit hres hBr
          go_wp2_with (go_at_call 54; refine (B0.out _).mono ?_; rintro e w2 ⟨rfl, rfl⟩)
          go_roundw
          case rel => exact ⟨k + 1, p2, e, k, A, hO2, rfl, by omega, rfl, hit2, hres2, hB2, HN⟩
          case measure => rw [iterPos_of hit2, hm1]; omega
        | false =>
          have B0 : Hid (∀ w, Calls Tryz.prog 54 #[.int .i32 ((rdS s p).1 : Nat)] w fun e w' => e = .returned (.bool false) ∧ w = w') := fun w => by rw [← hbl]; exact BL.out _ w
          cases hok : (rdS s p).2.2 with
          | false =>
            have hpg : p = g := by
              have := HST.out.at_
              exact good_one ⟨k, this, HST.out.oks, .inr ⟨hlt, hok⟩⟩ HG.out
            have ht : tok s p = .bad 50 := by unfold tok; rw [hbl, if_neg (by decide), if_pos hok]
            have HA : Hid (Ans s a f 50 p k []) := .inr ⟨HST.out.bad hlt (by omega) ht, HST.out.cnt.symm, rfl⟩
            generalize wr.iterAt w1.heap.size s (p + (rdS s p).2.1) = W2 at hnx hO2 hit2 hres2 hB2
            clear ht hbl hok
            generalize p + (rdS s p).2.1 = p2 at *
            generalize (rdS s p).1 = r at hnx B0
            subst hpg
            clear HG HL BL ST0 HST GD hO hit hres hBr
            obtain ⟨c0, c1, c2, f0, f1, f2⟩ := res_al hres2
            go_wp2_with (go_at_call 54; refine (B0.out _).mono ?_; rintro e w2 ⟨rfl, rfl⟩)
            go_region
            go_wp2
            refine bodyPost_ret (v := .tuple #[.slice none 0 0, fau 50 p k]) (by simp [results, Tryz.results33, go_sem, c0, c1, c2]) rfl ⟨_, 50, p, k, [], rfl, HA.out, owns_nil _ _ _ _, ?_⟩
            exact ((((bta hB2 _).setCell (Nat.le_refl _) _).setCell (Nat.le_refl _) _).setCell (Nat.le_refl _) _).drew
          | true =>
            have hne : ((p : Int) == (g : Int)) = false := by
              have hg' : p ≠ g := fun e => by
                obtain ⟨_, _, _, hh⟩ := HG.out
                rcases hh with hh | ⟨_, hh⟩
                · omega
                · rw [← e, hok] at hh; cases hh
              simp; omega
            obtain ⟨htk, hrd⟩ := tok_end s p hlt
            have hz := size_win s p s.size (Nat.le_refl _)
            have hS2 := (hS.below hB2).alloc
            have hlk : w1.heap.size < (wr.iterAt w1.heap.size s (p + (rdS s p).2.1)).heap.size := (Array.getElem?_eq_some_iff.1 hit2).1
            have hlw : w.heap.size < (wr.iterAt w1.heap.size s (p + (rdS s p).2.1)).heap.size := (Array.getElem?_eq_some_iff.1 hres2).1
            cases ht : tok (s.extract p s.size) 0 with
            | blank => 
              rw [ht] at htk
              have := (blank_bd hlt htk).2
              rw [hbl] at this; cases this
            | bad cd =>
              rw [ht] at htk
              have HA : Hid (Ans s a f cd p k []) := .inr ⟨HST.out.bad hlt (by omega) htk, HST.out.cnt.symm, rfl⟩
              have FW0 : Hid (∀ w, Sg w → Calls Tryz.prog 55 #[.string (s.extract p s.size), .int .i32 ((rdS s p).1 : Nat)] w fun e w' => ∃ z : Nat, e = .returned (.tuple #[wordV 0 emp 0 0 0, .int .i64 z, .int .i64 cd]) ∧ Below w.heap.size w w') := fun w hS => by
                have := fw_bad (s.extract p s.size) w hS (by omega) (by omega) (by rw [hrd]; exact hok) ht
                rwa [hrd] at this
              have hcd : ((cd : Int) == 0) = false := by
                have := tok_code htk
                simp; omega
              generalize wr.iterAt w1.heap.size s (p + (rdS s p).2.1) = W2 at *
              clear ht hbl hok htk hrd
              generalize p + (rdS s p).2.1 = p2 at *
              generalize (rdS s p).1 = r at hnx B0 FW0
              clear HG HL BL ST0 HST GD hO hit hres hBr
              go_wp2_with (first
                | (go_at_call 54; refine (B0.out _).mono ?_; rintro e w2 ⟨rfl, rfl⟩)
                | (go_at_call 55; refine (FW0.out _ (hS2 _)).mono ?_; rintro e w3 ⟨z, rfl, hB3⟩; obtain ⟨d0, d1, d2, d3⟩ := res_keep hB3; have hres3 := (hB3.block _ (by simp; omega)).trans ((heap_alloc_old _ _ hlw).trans hres2); obtain ⟨c0, c1, c2, f0, f1, f2⟩ := res_al hres3))
              go_region
              go_wp2
              refine bodyPost_ret (v := .tuple #[.slice none 0 0, fau cd p k]) (by simp [results, Tryz.results33, go_sem, c0, c1, c2]) rfl ⟨_, cd, p, k, [], rfl, HA.out, owns_nil _ _ _ _, ?_⟩
              exact ((((bta (bt2 hB2 (ba2 hB3)) _).setCell (Nat.le_refl _) _).setCell (Nat.le_refl _) _).setCell (Nat.le_refl _) _).drew
            | word kd tx v q =>
              rw [ht] at htk
              have HN : Hid (Stand s a f (k + 1) (p + (rdS s p).2.1) (p + q) (A ++ [⟨kd, tx, v, p⟩])) := HST.out.word hlt (by omega) htk
              have HF : Hid (A.map (full s) ++ [(⟨kd, tx, v, p, k⟩ : FW)] = (A ++ [(⟨kd, tx, v, p⟩ : Wd)]).map (full s)) := by
                show _ = _
                rw [List.map_append, List.map_cons, List.map_nil, full, HST.out.cnt]
              have hAl : A.length ≤ 4096 := Nat.le_trans HST.out.len HL.out
              have hq := tok_to hlt htk
              have FW0 : Hid (∀ w, Sg w → Calls Tryz.prog 55 #[.string (s.extract p s.size), .int .i32 ((rdS s p).1 : Nat)] w fun e w' => e = .returned (.tuple #[wordV kd tx v 0 0, .int .i64 q, .int .i64 0]) ∧ Below w.heap.size w w') := fun w hS => by
                have := fw_word (s.extract p s.size) w hS (by omega) (by omega) ht
                rwa [hrd] at this
              generalize wr.iterAt w1.heap.size s (p + (rdS s p).2.1) = W2 at *
              clear ht hbl hok htk hrd
              generalize p + (rdS s p).2.1 = p2 at *
              generalize (rdS s p).1 = r at hnx B0 FW0
              clear HG HL BL ST0 HST GD hO hit hres hBr
              go_wp2_with (first
                | (go_at_call 54; refine (B0.out _).mono ?_; rintro e w2 ⟨rfl, rfl⟩)
                | (go_at_call 55; refine (FW0.out _ (hS2 _)).mono ?_; rintro e w3 ⟨rfl, hB3⟩; obtain ⟨d0, d1, d2, d3⟩ := res_keep hB3; have hb3 := ba2 hB3)
                | (at_builtin; refine wp_pushW _ (w1.heap.size + 1) rfl (.tmp 59) (.tmp 61) rfl _ A.length (A.map (full s)) rfl _ ⟨kd, tx, v, p, k⟩ rfl (own_keep hO2 (bta (bta hb3 _) _)) (fun i hi => cell_new5 _ kd v p k tx _ _ (by simp) i hi) (by have := hb3.size; simp; omega) hAl ?_; intro v' w4 hO4 hB4))
              go_roundw
              case rel =>
                rw [HF.out] at hO4
                have hbb := bta (bta hb3 (.cells #[.int .i64 kd, .string tx, .int .i64 v, .int .i64 p, .int .i64 k] 116)) (.cells #[.int .i64 kd, .string tx, .int .i64 v, .int .i64 p, .int .i64 k] 116)
                refine ⟨k + 1, p2, p + q, k, A ++ [⟨kd, tx, v, p⟩], ?_, rfl, by omega, by go_num, ?_, ?_, ?_, HN⟩
                · rw [List.length_append]; exact hO4
                · exact (hB4.block _ (by omega)).trans ((hbb.block _ hlk).trans hit2)
                · exact (hB4.block _ (by omega)).trans ((hbb.block _ hlw).trans hres2)
                · exact (bt2 hB2 hbb).trans (hB4.mono (by omega))
              case measure => rw [iterPos_of ((hB4.block _ (by omega)).trans (((bta (bta hb3 _) _).block _ hlk).trans hit2)), hm1]; omega
    · have hnx := fun ty => Lib.run_next_end_at (P := Tryz.prog) wr w1.heap.size s p ty hit hlt
      obtain ⟨hf, hA⟩ := HST.out.fin hlt
      subst hA
      have HA : Hid (Ans s A f 0 0 0 (A.map (full s))) := .inl ⟨hf, rfl, rfl, rfl, rfl⟩
      obtain ⟨c0, c1, c2, f0, f1, f2⟩ := res_of hres
      clear hf HG HL BL ST0 HST GD
      go_wp2
      refine bodyPost_ret (v := .tuple #[_, fau 0 0 0]) (by simp [results, Tryz.results33, go_sem, c0, c1, c2]; rfl) rfl ⟨_, 0, 0, 0, _, rfl, HA.out, ?_, ?_⟩
      · rw [List.length_map]
        refine owns_turn hO (by omega) (fun g hg => ?_)
        rw [Below.heap_setCell _ _ _ _ (by simp; omega), Below.heap_setCell _ _ _ _ (by simp; omega), Below.heap_setCell _ _ _ _ (by simp; omega)]
      · repeat refine Below.setCell ?_ (by simp) _
        exact hBr
end Go.Proofs.YtncgmnijgdfenaaGreatDoor.Gl
/- What lex.Words answers. -/
namespace Go.Proofs.YtncgmnijgdfenaaGreatDoor.Gl
open Go.RowKit

theorem lexC : LexC where
  long := fun s w _ h hs => words_long s w h hs
  good := fun s a w hS hs h => (words_at s a none w hS hs h).mono fun e w' ⟨v, c, p, k, ws, he, ha, ho, hb⟩ => by
    rcases ha with ⟨_, rfl, rfl, rfl, rfl⟩ | ⟨h, _⟩
    · rw [List.length_map] at ho
      exact ⟨v, he, ho, hb⟩
    · cases h
  bad := fun s a c p w hS hs h => (words_at s a (some (c, p)) w hS hs h).mono fun e w' ⟨v, c', p', k, ws, he, ha, ho, hb⟩ => by
    rcases ha with ⟨h, _⟩ | ⟨h, rfl, rfl⟩
    · cases h
    · cases h
      exact ⟨v, he, ho, hb⟩
end Go.Proofs.YtncgmnijgdfenaaGreatDoor.Gl
