/- strconv.ParseInt and Clone: the contracts off the shelf, at this program. -/
import Derived.Shelf.Strconv.Clone
import Derived.Shelf.Strconv.ParseIntPublic10
import Derived.Test.YtabfhdmcljdjhaaGreatDoorProg
import Derived.Test.YtabfhdmcljdjhaaGreatDoorTrB
import Derived.Test.YtabfhdmcljdjhaaGreatDoorLyA
namespace Go.Proofs.YtabfhdmcljdjhaaGreatDoor.Gl
open Go.Proofs
open Go.Shelf
def laysM316_ren : Go.Shelf.Ren := ⟨fun | 316 => 103 | n => n, fun | 9 => 9 | 3 => 3 | 4 => 4 | 37 => 140 | 0 => 0 | 127 => 141 | 5 => 5 | n => n, fun | n => n⟩
theorem laysM316 : Go.Proofs.LaysM.n316 Tryz.prog laysM316_ren := {
  mixed := by kernel_rfl
  f316 := Tryz.func103.trans (congrArg some (by kernel_rfl))
  t0 := Tryz.underlying0
  a0 := Tryz.isAgg0
  z0 := Tryz.sizeOf0
  v0 := Tryz.zeroValue0
  t3 := Tryz.underlying3
  a3 := Tryz.isAgg3
  z3 := Tryz.sizeOf3
  v3 := Tryz.zeroValue3
  t4 := Tryz.underlying4
  a4 := Tryz.isAgg4
  z4 := Tryz.sizeOf4
  v4 := Tryz.zeroValue4
  t9 := Tryz.underlying9
  a9 := Tryz.isAgg9
  z9 := Tryz.sizeOf9
  v9 := Tryz.zeroValue9
  t37 := Tryz.underlying140
  a37 := Tryz.isAgg140
  z37 := Tryz.sizeOf140
  v37 := Tryz.zeroValue140
  t127 := Tryz.underlying141
  a127 := Tryz.isAgg141
  z127 := Tryz.sizeOf141
  v127 := Tryz.zeroValue141
  t5 := Tryz.underlying5
  a5 := Tryz.isAgg5
  z5 := Tryz.sizeOf5
  v5 := Tryz.zeroValue5
  i0 := by kernel_rfl
  i3 := by kernel_rfl
  i4 := by kernel_rfl
  i5 := by kernel_rfl
  i9 := by kernel_rfl
  i37 := by kernel_rfl
  i127 := by kernel_rfl }
open Go.RowKit in
theorem clone_lib (s : ByteArray) (w : World) (hlim : s.size ≤ 281474976710656) :
    Calls Tryz.prog 103 #[.string s] w fun e w' => e = .returned (.string s) ∧ Below w.heap.size w w' := Any.stringslite_Clone laysM316 s w hlim
def laysC174_ren : Go.Shelf.Ren := ⟨fun | 174 => 101 | 247 => 104 | 245 => 105 | 287 => 108 | 279 => 109 | 280 => 110 | 281 => 111 | 282 => 112 | 321 => 116 | 322 => 117 | 316 => 103 | 171 => 119 | 205 => 118 | 243 => 120 | 246 => 121 | 283 => 122 | 284 => 123 | 285 => 124 | 286 => 125 | 129 => 127 | 317 => 126 | 318 => 128 | 319 => 129 | 320 => 130 | 337 => 131 | 338 => 132 | n => n, fun | 9 => 9 | 3 => 3 | 2 => 2 | 75 => 134 | 85 => 135 | 4 => 4 | 167 => 142 | 5 => 5 | 53 => 143 | 175 => 144 | 46 => 146 | 168 => 147 | 37 => 140 | 0 => 0 | 210 => 155 | 21 => 21 | 127 => 141 | 145 => 159 | 143 => 157 | 171 => 161 | 173 => 164 | 212 => 168 | 51 => 169 | 20 => 20 | 213 => 170 | 232 => 173 | 233 => 174 | 80 => 150 | n => n, fun | 15 => 1 | 16 => 2 | 17 => 3 | 18 => 4 | 19 => 5 | n => n⟩
theorem laysC174 : Go.Proofs.LaysC.n174 Tryz.prog laysC174_ren := {
  mixed := by kernel_rfl
  f129 := Tryz.func127.trans (congrArg some (by kernel_rfl))
  f171 := Tryz.func119.trans (congrArg some (by kernel_rfl))
  f174 := Tryz.func101.trans (congrArg some (by kernel_rfl))
  f205 := Tryz.func118.trans (congrArg some (by kernel_rfl))
  f243 := Tryz.func120.trans (congrArg some (by kernel_rfl))
  f245 := Tryz.func105.trans (congrArg some (by kernel_rfl))
  f246 := Tryz.func121.trans (congrArg some (by kernel_rfl))
  f247 := Tryz.func104.trans (congrArg some (by kernel_rfl))
  f279 := Tryz.func109.trans (congrArg some (by kernel_rfl))
  f280 := Tryz.func110.trans (congrArg some (by kernel_rfl))
  f281 := Tryz.func111.trans (congrArg some (by kernel_rfl))
  f282 := Tryz.func112.trans (congrArg some (by kernel_rfl))
  f283 := Tryz.func122.trans (congrArg some (by kernel_rfl))
  f284 := Tryz.func123.trans (congrArg some (by kernel_rfl))
  f285 := Tryz.func124.trans (congrArg some (by kernel_rfl))
  f286 := Tryz.func125.trans (congrArg some (by kernel_rfl))
  f287 := Tryz.func108.trans (congrArg some (by kernel_rfl))
  f316 := Tryz.func103.trans (congrArg some (by kernel_rfl))
  f317 := Tryz.func126.trans (congrArg some (by kernel_rfl))
  f318 := Tryz.func128.trans (congrArg some (by kernel_rfl))
  f319 := Tryz.func129.trans (congrArg some (by kernel_rfl))
  f320 := Tryz.func130.trans (congrArg some (by kernel_rfl))
  f321 := Tryz.func116.trans (congrArg some (by kernel_rfl))
  f322 := Tryz.func117.trans (congrArg some (by kernel_rfl))
  f337 := Tryz.func131.trans (congrArg some (by kernel_rfl))
  f338 := Tryz.func132.trans (congrArg some (by kernel_rfl))
  t0 := Tryz.underlying0
  a0 := Tryz.isAgg0
  z0 := Tryz.sizeOf0
  v0 := Tryz.zeroValue0
  t2 := Tryz.underlying2
  a2 := Tryz.isAgg2
  z2 := Tryz.sizeOf2
  v2 := Tryz.zeroValue2
  t3 := Tryz.underlying3
  a3 := Tryz.isAgg3
  z3 := Tryz.sizeOf3
  v3 := Tryz.zeroValue3
  t4 := Tryz.underlying4
  a4 := Tryz.isAgg4
  z4 := Tryz.sizeOf4
  v4 := Tryz.zeroValue4
  t5 := Tryz.underlying5
  a5 := Tryz.isAgg5
  z5 := Tryz.sizeOf5
  v5 := Tryz.zeroValue5
  t9 := Tryz.underlying9
  a9 := Tryz.isAgg9
  z9 := Tryz.sizeOf9
  v9 := Tryz.zeroValue9
  t20 := Tryz.underlying20
  a20 := Tryz.isAgg20
  z20 := Tryz.sizeOf20
  v20 := Tryz.zeroValue20
  t21 := Tryz.underlying21
  a21 := Tryz.isAgg21
  z21 := Tryz.sizeOf21
  v21 := Tryz.zeroValue21
  t37 := Tryz.underlying140
  a37 := Tryz.isAgg140
  z37 := Tryz.sizeOf140
  v37 := Tryz.zeroValue140
  t46 := Tryz.underlying146
  a46 := Tryz.isAgg146
  z46 := Tryz.sizeOf146
  v46 := Tryz.zeroValue146
  t51 := Tryz.underlying169
  a51 := Tryz.isAgg169
  z51 := Tryz.sizeOf169
  v51 := Tryz.zeroValue169
  t53 := Tryz.underlying143
  a53 := Tryz.isAgg143
  z53 := Tryz.sizeOf143
  v53 := Tryz.zeroValue143
  t75 := Tryz.underlying134
  a75 := Tryz.isAgg134
  z75 := Tryz.sizeOf134
  v75 := Tryz.zeroValue134
  t85 := Tryz.underlying135
  a85 := Tryz.isAgg135
  z85 := Tryz.sizeOf135
  v85 := Tryz.zeroValue135
  t127 := Tryz.underlying141
  a127 := Tryz.isAgg141
  z127 := Tryz.sizeOf141
  v127 := Tryz.zeroValue141
  t143 := Tryz.underlying157
  a143 := Tryz.isAgg157
  z143 := Tryz.sizeOf157
  v143 := Tryz.zeroValue157
  t145 := Tryz.underlying159
  a145 := Tryz.isAgg159
  z145 := Tryz.sizeOf159
  v145 := Tryz.zeroValue159
  t167 := Tryz.underlying142
  a167 := Tryz.isAgg142
  z167 := Tryz.sizeOf142
  v167 := Tryz.zeroValue142
  t168 := Tryz.underlying147
  a168 := Tryz.isAgg147
  z168 := Tryz.sizeOf147
  v168 := Tryz.zeroValue147
  t171 := Tryz.underlying161
  a171 := Tryz.isAgg161
  z171 := Tryz.sizeOf161
  v171 := Tryz.zeroValue161
  t173 := Tryz.underlying164
  a173 := Tryz.isAgg164
  z173 := Tryz.sizeOf164
  v173 := Tryz.zeroValue164
  t175 := Tryz.underlying144
  a175 := Tryz.isAgg144
  z175 := Tryz.sizeOf144
  v175 := Tryz.zeroValue144
  t210 := Tryz.underlying155
  a210 := Tryz.isAgg155
  z210 := Tryz.sizeOf155
  v210 := Tryz.zeroValue155
  t212 := Tryz.underlying168
  a212 := Tryz.isAgg168
  z212 := Tryz.sizeOf168
  v212 := Tryz.zeroValue168
  t213 := Tryz.underlying170
  a213 := Tryz.isAgg170
  z213 := Tryz.sizeOf170
  t232 := Tryz.underlying173
  a232 := Tryz.isAgg173
  z232 := Tryz.sizeOf173
  v232 := Tryz.zeroValue173
  t233 := Tryz.underlying174
  a233 := Tryz.isAgg174
  z233 := Tryz.sizeOf174
  v233 := Tryz.zeroValue174
  g15 := by kernel_rfl
  g16 := by kernel_rfl
  g17 := by kernel_rfl
  g18 := by kernel_rfl
  g19 := by kernel_rfl
  t80 := Tryz.underlying150
  a80 := Tryz.isAgg150
  z80 := Tryz.sizeOf150
  v80 := Tryz.zeroValue150
  i0 := by kernel_rfl
  i2 := by kernel_rfl
  i3 := by kernel_rfl
  i4 := by kernel_rfl
  i5 := by kernel_rfl
  i9 := by kernel_rfl
  i20 := by kernel_rfl
  i21 := by kernel_rfl
  i37 := by kernel_rfl
  i46 := by kernel_rfl
  i51 := by kernel_rfl
  i53 := by kernel_rfl
  i75 := by kernel_rfl
  i80 := by kernel_rfl
  i85 := by kernel_rfl
  i127 := by kernel_rfl
  i143 := by kernel_rfl
  i145 := by kernel_rfl
  i167 := by kernel_rfl
  i168 := by kernel_rfl
  i171 := by kernel_rfl
  i173 := by kernel_rfl
  i175 := by kernel_rfl
  i210 := by kernel_rfl
  i212 := by kernel_rfl
  i232 := by kernel_rfl
  i233 := by kernel_rfl
  m15 := by kernel_rfl
  m16 := by kernel_rfl
  m17 := by kernel_rfl
  m18 := by kernel_rfl
  m19 := by kernel_rfl
  c0 := by kernel_rfl
  c2 := by kernel_rfl
  c3 := by kernel_rfl
  c4 := by kernel_rfl
  c5 := by kernel_rfl
  c9 := by kernel_rfl
  c20 := by kernel_rfl
  c21 := by kernel_rfl
  c37 := by kernel_rfl
  c46 := by kernel_rfl
  c51 := by kernel_rfl
  c53 := by kernel_rfl
  c75 := by kernel_rfl
  c80 := by kernel_rfl
  c85 := by kernel_rfl
  c127 := by kernel_rfl
  c143 := by kernel_rfl
  c145 := by kernel_rfl
  c167 := by kernel_rfl
  c168 := by kernel_rfl
  c171 := by kernel_rfl
  c173 := by kernel_rfl
  c175 := by kernel_rfl
  c210 := by kernel_rfl
  c212 := by kernel_rfl
  c213 := by kernel_rfl
  c232 := by kernel_rfl
  c233 := by kernel_rfl }
open Go.RowKit in
theorem parse_lib_ok (s : ByteArray) (hmax : s.size ≤ 9223372036854775806) (v : Int) (h : Lib.parseIntB 64 s.data.toList = .ok v) (w : World) :
    Calls Tryz.prog 101 #[.string s, .int .i64 10, .int .i64 64] w fun e w' => e = .returned (.tuple #[.int .i64 v, .nilIface]) ∧ (w' = w ∨ ∃ t, w' = Lib.bytesWorld w 5 t) := Any.strconv_ParseInt_10_at64_ok laysC174 s hmax v h w
open Go.RowKit in
theorem parse_lib_range (s : ByteArray) (hlim : s.size ≤ 281474976710656) (h : Lib.parseIntB 64 s.data.toList = .range) (ev : Value) (w : World) (hv : w.cell? ⟨2, 0, none⟩ = some ev) (hev : ev = .nilIface ∨ ∃ te pe, ev = .iface te pe) :
    Calls Tryz.prog 101 #[.string s, .int .i64 10, .int .i64 64] w fun e w' => ∃ N, e = .returned (.tuple #[.int .i64 (Lib.intSat 64 s.data.toList), .iface 147 (.pointer (some ⟨N, 0, none⟩))]) ∧ w.heap.size ≤ N ∧ w'.heap[N]? = some (.cells #[.string ⟨#[80, 97, 114, 115, 101, 73, 110, 116]⟩, .string s, ev] 155 (0, 0)) ∧ Below w.heap.size w w' := Any.strconv_ParseInt_10_at64_range laysC174 s hlim h ev w hv hev
end Go.Proofs.YtabfhdmcljdjhaaGreatDoor.Gl
/- Numbers as strconv.ParseInt reads them; number; nameOrReserved. -/
namespace Go.Proofs.YtabfhdmcljdjhaaGreatDoor.Gl
open Go.RowKit
set_option linter.unusedVariables false

/-- the number that digits write -/
def dv (acc : Nat) : List UInt8 → Nat
  | [] => acc
  | c :: r => dv (acc * 10 + (c.toNat - 48)) r
theorem dv_le (l : List UInt8) (acc : Nat) : acc ≤ dv acc l := by
  induction l generalizing acc with
  | nil => exact Nat.le_refl _
  | cons c r ih => exact Nat.le_trans (by omega) (ih (acc * 10 + (c.toNat - 48)))
theorem dv_snoc (l : List UInt8) (c : UInt8) (acc : Nat) : dv acc (l ++ [c]) = 10 * dv acc l + (c.toNat - 48) := by
  induction l generalizing acc with
  | nil => show acc * 10 + (c.toNat - 48) = _; show _ = 10 * acc + _; omega
  | cons d r ih => exact ih _
theorem val_dv (s : ByteArray) : ∀ n, n ≤ s.size → valF s 0 n = dv 0 (s.data.toList.take n)
  | 0, _ => rfl
  | n + 1, h => by
    have hl : n < s.data.toList.length := by rw [← Lib.size_eq]; omega
    rw [valF, val_dv s n (by omega), List.take_succ_eq_append_getElem hl, dv_snoc, Nat.zero_add, bt_of s n (by omega)]
    rfl
theorem val_all (s : ByteArray) : valF s 0 s.size = dv 0 s.data.toList := by
  rw [val_dv s s.size (Nat.le_refl _), List.take_of_length_le (by rw [← Lib.size_eq]; exact Nat.le_refl _)]
theorem uint_dv (M : Nat) (hM : M ≤ 18446744073709551615) (l : List UInt8) (hl : ∀ c ∈ l, 48 ≤ c.toNat ∧ c.toNat ≤ 57) (acc : Nat) :
    (Lib.parseUintM M acc l = .ok (dv acc l)) ∨ (Lib.parseUintM M acc l = .range ∧ M < dv acc l) := by
  induction l generalizing acc with
  | nil => exact .inl rfl
  | cons c r ih =>
    have hc := hl c (List.mem_cons_self ..)
    rw [Lib.parseUintM, if_pos hc]
    have hle := dv_le r (acc * 10 + (c.toNat - 48))
    split
    · exact .inr ⟨rfl, by show M < dv _ r; omega⟩
    · split
      · exact .inr ⟨rfl, by show M < dv _ r; omega⟩
      · exact ih (fun d hd => hl d (List.mem_cons_of_mem _ hd)) _
def Digs (t : ByteArray) : Prop := 0 < t.size ∧ ∀ j, j < t.size → 48 ≤ bt t j ∧ bt t j ≤ 57
theorem digs_mem {t : ByteArray} (h : Digs t) : ∀ c ∈ t.data.toList, 48 ≤ c.toNat ∧ c.toNat ≤ 57 := by
  intro c hc
  obtain ⟨j, hj, rfl⟩ := List.getElem_of_mem hc
  have hj' : j < t.size := by rw [Lib.size_eq]; exact hj
  have := h.2 j hj'
  rw [bt_of t j hj'] at this
  exact this
theorem parse_digs {t : ByteArray} (h : Digs t) : (valF t 0 t.size ≤ 9223372036854775807 → Lib.parseIntB 64 t.data.toList = .ok ((valF t 0 t.size : Nat) : Int)) ∧ (9223372036854775807 < valF t 0 t.size → Lib.parseIntB 64 t.data.toList = .range) := by
  have hm := digs_mem h
  have hne : 0 < t.data.toList.length := by rw [← Lib.size_eq]; exact h.1
  rw [val_all]
  generalize t.data.toList = l at *
  cases l with
  | nil => simp at hne
  | cons c r =>
    have hc := hm c (List.mem_cons_self ..)
    rw [Lib.parseIntB_plain 64 c r (by omega) (by omega)]
    have e : Lib.parseUintB 64 (c :: r) = Lib.parseUintM 18446744073709551615 0 (c :: r) := rfl
    rw [e]
    have e2 : (2 : Nat) ^ (64 - 1) = 9223372036854775808 := by decide
    rw [e2]
    rcases uint_dv 18446744073709551615 (Nat.le_refl _) (c :: r) hm 0 with h1 | ⟨h1, h2⟩
    · rw [h1]
      constructor
      · intro hle
        show (if _ then _ else _) = _
        rw [if_neg (by omega)]
      · intro hlt
        show (if _ then _ else _) = _
        rw [if_pos (by omega)]
    · rw [h1]
      constructor
      · intro hle; omega
      · intro _; rfl
set_option maxHeartbeats 1000000 in
theorem number_ok (t : ByteArray) (v : Nat) (w : World) (hd : Digs t) (ht : t.size ≤ 4096) (hv : valF t 0 t.size = v) (h : v ≤ 9223372036854775807) :
    Calls Tryz.prog 83 #[.string t] w fun e w' => e = .returned (.tuple #[wordV 1 emp v 0 0, .int .i64 0]) ∧ Below w.heap.size w w' := by
  have PA : Hid (∀ w, Calls Tryz.prog 101 #[.string t, .int .i64 10, .int .i64 64] w fun e w' => e = .returned (.tuple #[.int .i64 (v : Int), .nilIface]) ∧ Below w.heap.size w w') := fun w =>
    (parse_lib_ok t (by omega) _ (by rw [(parse_digs hd).1 (by rw [hv]; exact h), hv]) w).mono fun e w' ⟨he, hw⟩ => ⟨he, by
      rcases hw with rfl | ⟨u, rfl⟩
      · exact Below.refl _ _
      · exact Lib.bytesWorld_below _ _ _⟩
  clear hv hd
  go_enter Tryz.func83, Tryz.ntmps83
  go_wp2_with (go_at_call 101; refine (PA.out _).mono ?_; rintro e w2 ⟨rfl, hB2⟩; obtain ⟨hc, hf⟩ := bcell hB2)
  refine bodyPost_ret (v := .tuple #[wordV 1 emp v 0 0, .int .i64 0]) (by simp [results, Tryz.results83, go_sem, hc]) rfl ⟨rfl, ?_⟩
  repeat refine Below.setCell ?_ (by simp) _
  exact ba2 hB2
set_option maxHeartbeats 1000000 in
theorem number_bad (t : ByteArray) (w : World) (hS : Sg w) (hd : Digs t) (ht : t.size ≤ 4096) (h : 9223372036854775807 < valF t 0 t.size) :
    Calls Tryz.prog 83 #[.string t] w fun e w' => e = .returned (.tuple #[wordV 0 emp 0 0 0, .int .i64 52]) ∧ Below w.heap.size w w' := by
  have PA : Hid (∀ w, Sg w → Calls Tryz.prog 101 #[.string t, .int .i64 10, .int .i64 64] w fun e w' => ∃ (z : Int) (N : Nat), e = .returned (.tuple #[.int .i64 z, .iface 147 (.pointer (some ⟨N, 0, none⟩))]) ∧ Below w.heap.size w w') := fun w hS => by
    obtain ⟨te, pe, hr⟩ := hS.range
    exact (parse_lib_range t (by omega) ((parse_digs hd).2 h) _ w hr (.inr ⟨te, pe, rfl⟩)).mono fun e w' ⟨N, he, _, _, hb⟩ => ⟨_, N, he, hb⟩
  clear hd h
  go_enter Tryz.func83, Tryz.ntmps83
  go_wp2_with (go_at_call 101; refine (PA.out _ (hS.alloc _)).mono ?_; rintro e w2 ⟨z, N, rfl, hB2⟩; obtain ⟨hc, hf⟩ := bcell hB2)
  refine bodyPost_ret (v := .tuple #[wordV 0 emp 0 0 0, .int .i64 52]) (by simp [results, Tryz.results83, go_sem, hc]) rfl ⟨rfl, ?_⟩
  repeat refine Below.setCell ?_ (by simp) _
  exact ba2 hB2
theorem clone_at (t : ByteArray) (w : World) (ht : t.size ≤ 4096) :
    Calls Tryz.prog 98 #[.string t] w fun e w' => e = .returned (.string t) ∧ Below w.heap.size w w' := by
  have K : Hid (∀ w, Calls Tryz.prog 103 #[.string t] w fun e w' => e = .returned (.string t) ∧ Below w.heap.size w w') := fun w => clone_lib t w (by omega)
  go_enter Tryz.func98, Tryz.ntmps98
  go_wp2_with (go_at_call 103; refine (K.out _).mono ?_; rintro e w2 ⟨rfl, hB2⟩)
  go_ret
  exact ⟨rfl, hB2⟩
set_option maxHeartbeats 1000000 in
theorem name_sign (t : ByteArray) (w : World) (ht : t.size ≤ 4096) (h : rsB t = true) :
    Calls Tryz.prog 81 #[.string t] w fun e w' => e = .returned (.tuple #[wordV 2 t 0 0 0, .int .i64 0]) ∧ Below w.heap.size w w' := by
  have CL : Hid (∀ w, Calls Tryz.prog 98 #[.string t] w fun e w' => e = .returned (.string t) ∧ Below w.heap.size w w') := fun w => clone_at t w ht
  have RS : Hid (∀ w, Calls Tryz.prog 99 #[.string t] w fun e w' => e = .returned (.bool true) ∧ w = w') := fun w => by rw [← h]; exact reserved_at t w
  have SG : Hid (∀ w, Calls Tryz.prog 85 #[.string t] w fun e w' => e = .returned (wordV 2 t 0 0 0) ∧ Below w.heap.size w w') := fun w => sign_at t w
  clear h
  go_enter Tryz.func81, Tryz.ntmps81
  go_wp2_with (first
    | (go_at_call 98; refine (CL.out _).mono ?_; rintro e w2 ⟨rfl, hB2⟩; obtain ⟨hc, hf⟩ := bcell hB2)
    | (go_at_call 99; refine (RS.out _).mono ?_; rintro e w3 ⟨rfl, rfl⟩)
    | (go_at_call 85; refine (SG.out _).mono ?_; rintro e w4 ⟨rfl, hB4⟩; obtain ⟨hc4, hf4⟩ := bcell (bt2 hB2 hB4)))
  refine bodyPost_ret (v := .tuple #[wordV 2 t 0 0 0, .int .i64 0]) (by simp [results, Tryz.results81, go_sem, hc4]) rfl ⟨rfl, ?_⟩
  repeat refine Below.setCell ?_ (by simp) _
  exact ba2 (bt2 hB2 hB4)
set_option maxHeartbeats 1000000 in
theorem name_name (t : ByteArray) (w : World) (ht : t.size ≤ 4096) (h : rsB t = false) (k c : Nat) (x : ByteArray) (b : Bool) (hb : b = true ↔ IsName t) (hx : (b = true ∧ x = t ∧ c = 0) ∨ (b = false ∧ x = emp ∧ c = 6)) :
    Calls Tryz.prog 81 #[.string t] w fun e w' => e = .returned (.tuple #[wordV 0 x 0 0 0, .int .i64 c]) ∧ Below w.heap.size w w' := by
  have CL : Hid (∀ w, Calls Tryz.prog 98 #[.string t] w fun e w' => e = .returned (.string t) ∧ Below w.heap.size w w') := fun w => clone_at t w ht
  have RS : Hid (∀ w, Calls Tryz.prog 99 #[.string t] w fun e w' => e = .returned (.bool false) ∧ w = w') := fun w => by rw [← h]; exact reserved_at t w
  have NM : Hid (∀ w, Calls Tryz.prog 100 #[.string t] w fun e w' => e = .returned (.bool b) ∧ Below w.heap.size w w') := fun w => name_at t b w (by omega) hb
  clear h hb
  rcases hx with ⟨rfl, rfl, rfl⟩ | ⟨rfl, rfl, rfl⟩
  · go_enter Tryz.func81, Tryz.ntmps81
    go_wp2_with (first
      | (go_at_call 98; refine (CL.out _).mono ?_; rintro e w2 ⟨rfl, hB2⟩; obtain ⟨hc, hf⟩ := bcell hB2)
      | (go_at_call 99; refine (RS.out _).mono ?_; rintro e w3 ⟨rfl, rfl⟩)
      | (go_at_call 100; refine (NM.out _).mono ?_; rintro e w4 ⟨rfl, hB4⟩; obtain ⟨hc4, hf4⟩ := bcell (bt2 hB2 hB4)))
    refine bodyPost_ret (v := .tuple #[wordV 0 x 0 0 0, .int .i64 0]) (by simp [results, Tryz.results81, go_sem, hc4]) rfl ⟨rfl, ?_⟩
    repeat refine Below.setCell ?_ (by simp) _
    exact ba2 (bt2 hB2 hB4)
  · go_enter Tryz.func81, Tryz.ntmps81
    go_wp2_with (first
      | (go_at_call 98; refine (CL.out _).mono ?_; rintro e w2 ⟨rfl, hB2⟩; obtain ⟨hc, hf⟩ := bcell hB2)
      | (go_at_call 99; refine (RS.out _).mono ?_; rintro e w3 ⟨rfl, rfl⟩)
      | (go_at_call 100; refine (NM.out _).mono ?_; rintro e w4 ⟨rfl, hB4⟩; obtain ⟨hc4, hf4⟩ := bcell (bt2 hB2 hB4)))
    refine bodyPost_ret (v := .tuple #[wordV 0 emp 0 0 0, .int .i64 6]) (by simp [results, Tryz.results81, go_sem, hc4]) rfl ⟨rfl, ?_⟩
    repeat refine Below.setCell ?_ (by simp) _
    exact ba2 (bt2 hB2 hB4)
end Go.Proofs.YtabfhdmcljdjhaaGreatDoor.Gl
/- longestSign. -/
namespace Go.Proofs.YtabfhdmcljdjhaaGreatDoor.Gl
open Go.RowKit
set_option linter.unusedVariables false

theorem ix_at (i : Nat) (hi : i < 18) : ∃ x : ByteArray, allSigns[i]? = some x ∧ ∀ w, (Instr.index 137 (.agg sgnArr) (.int .i64 ((i : Nat) : Int))).run Tryz.prog w = .ok (.string x) w := by
  match i, hi with
  | 0, _ => exact ⟨_, rfl, fun w => by kernel_rfl⟩
  | 1, _ => exact ⟨_, rfl, fun w => by kernel_rfl⟩
  | 2, _ => exact ⟨_, rfl, fun w => by kernel_rfl⟩
  | 3, _ => exact ⟨_, rfl, fun w => by kernel_rfl⟩
  | 4, _ => exact ⟨_, rfl, fun w => by kernel_rfl⟩
  | 5, _ => exact ⟨_, rfl, fun w => by kernel_rfl⟩
  | 6, _ => exact ⟨_, rfl, fun w => by kernel_rfl⟩
  | 7, _ => exact ⟨_, rfl, fun w => by kernel_rfl⟩
  | 8, _ => exact ⟨_, rfl, fun w => by kernel_rfl⟩
  | 9, _ => exact ⟨_, rfl, fun w => by kernel_rfl⟩
  | 10, _ => exact ⟨_, rfl, fun w => by kernel_rfl⟩
  | 11, _ => exact ⟨_, rfl, fun w => by kernel_rfl⟩
  | 12, _ => exact ⟨_, rfl, fun w => by kernel_rfl⟩
  | 13, _ => exact ⟨_, rfl, fun w => by kernel_rfl⟩
  | 14, _ => exact ⟨_, rfl, fun w => by kernel_rfl⟩
  | 15, _ => exact ⟨_, rfl, fun w => by kernel_rfl⟩
  | 16, _ => exact ⟨_, rfl, fun w => by kernel_rfl⟩
  | 17, _ => exact ⟨_, rfl, fun w => by kernel_rfl⟩
  | n + 18, h => exact absurd h (by omega)
theorem drop_sign {k : Nat} {x : ByteArray} (h : allSigns[k]? = some x) : allSigns.drop k = x :: allSigns.drop (k + 1) := by
  obtain ⟨hk, rfl⟩ := List.getElem?_eq_some_iff.1 h
  exact List.drop_eq_getElem_cons hk
theorem sgn_size : sgnArr.size = 18 := rfl
set_option maxHeartbeats 2000000 in
theorem longest_at (u : ByteArray) (w : World) (hS : Sg w) (hu : u.size ≤ 9223372036854775807) :
    Calls Tryz.prog 86 #[.string u] w fun e w' => e = .returned (.string (sgn u 0)) ∧ w = w' := by
  have HP : Hid (∀ (x : ByteArray) w, Calls Tryz.prog 77 #[.string u, .string x] w fun e w' => e = .returned (.bool (fits u 0 x)) ∧ w = w') := fun x w => hasprefix_at u x w hu
  obtain ⟨tt, fr, hg⟩ := hS.signs
  have IX : Hid (∀ i : Nat, i < 18 → ∃ x : ByteArray, allSigns[i]? = some x ∧ ∀ w, (Instr.index 137 (.agg sgnArr) (.int .i64 ((i : Nat) : Int))).run Tryz.prog w = .ok (.string x) w) := ix_at
  have hsz : (Tryz.prog.info? 137).map (·.size) = some sgnArr.size := by kernel_rfl
  generalize sgnArr = A at hg IX hsz
  have H0 : Hid (longest u 0 (allSigns.drop 0) emp = sgn u 0) := rfl
  clear hS
  go_enter Tryz.func86, Tryz.ntmps86
  go_wp2_with (refine wpList_load_row rfl 137 _ rfl 0 rfl tt A fr _ hg Tryz.underlying137 rfl hsz ?_)
  go_loopw [3, 7] (fun b i wr => ∃ (k : Nat) (x : ByteArray), k ≤ 18 ∧ b = .string x ∧ i = .int .i64 k ∧ wr = w ∧ Hid (longest u 0 (allSigns.drop k) x = sgn u 0)) (fun _ i _ => 18 - (intOf i).toNat)
  case atStart => exact ⟨0, emp, by omega, rfl, rfl, rfl, H0⟩
  case round =>
    obtain ⟨k, b, hk, rfl, rfl, rfl, HL⟩ := hrel
    by_cases hlt : k < 18
    · obtain ⟨x, hx, hix⟩ := IX.out k hlt
      have HLx : Hid (longest u 0 (allSigns.drop (k + 1)) (if (fits u 0 x && decide (b.size < x.size)) = true then x else b) = sgn u 0) := by
        have := HL.out
        rw [drop_sign hx] at this
        exact this
      have P0 : Hid (∀ w, Calls Tryz.prog 77 #[.string u, .string x] w fun e w' => e = .returned (.bool (fits u 0 x)) ∧ w = w') := HP.out x
      have hlt' : (k : Int) < 18 := by omega
      clear HP HL hx IX H0 hg
      by_cases hgt : b.size < x.size
      · cases hf : fits u 0 x with
        | true =>
          rw [hf] at P0
          have HN : Hid (longest u 0 (allSigns.drop (k + 1)) x = sgn u 0) := by
            have := HLx.out
            rwa [hf, decide_eq_true hgt, if_pos (by decide)] at this
          clear HLx hf
          go_wp2_with (go_at_call 77; refine (P0.out _).mono ?_; rintro e w2 ⟨rfl, rfl⟩)
          go_roundw
          case rel => exact ⟨k + 1, x, by omega, rfl, by go_num, trivial, HN⟩
          case measure => simp [intOf]; omega
        | false =>
          rw [hf] at P0
          have HN : Hid (longest u 0 (allSigns.drop (k + 1)) b = sgn u 0) := by
            have := HLx.out
            rwa [hf, if_neg (by simp)] at this
          clear HLx hf
          go_wp2_with (go_at_call 77; refine (P0.out _).mono ?_; rintro e w2 ⟨rfl, rfl⟩)
          go_roundw
          case rel => exact ⟨k + 1, b, by omega, rfl, by go_num, trivial, HN⟩
          case measure => simp [intOf]; omega
      · have hgt' : decide (b.size < x.size) = false := decide_eq_false hgt
        have HN : Hid (longest u 0 (allSigns.drop (k + 1)) b = sgn u 0) := by
          have := HLx.out
          rwa [hgt', Bool.and_false, if_neg (by decide)] at this
        clear HLx P0
        go_wp2
        go_roundw
        case rel => exact ⟨k + 1, b, by omega, rfl, by go_num, trivial, HN⟩
        case measure => simp [intOf]; omega
    · have HE : Hid (b = sgn u 0) := by
        have := HL.out
        rw [show k = 18 by omega] at this
        exact this
      have hlt' : decide ((k : Int) < 18) = false := decide_eq_false (by omega)
      clear HL IX HP H0 hg
      go_wp2
      go_ret
      exact ⟨congrArg (fun x => Ending.returned (.string x)) HE.out, rfl⟩
end Go.Proofs.YtabfhdmcljdjhaaGreatDoor.Gl
