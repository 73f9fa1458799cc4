/-
  BoardKeeps's walk. Each statement bears its own conditions.
-/
import Derived.Test.YtfmcmhgpgkeplaaBdL
namespace Go.Proofs.Ytfmcmhgpgkeplaa.B
open Go.RowKit Go.Proofs.Ytfmcmhgpgkeplaa.F Go.Proofs.Ytfmcmhgpgkeplaa.I
set_option linter.unusedVariables false
set_option linter.unusedSimpArgs false
theorem ne_us : (40 : TypeId) ≠ 28 := by decide
/-- A list of words stays one, whatever word is written. -/
theorem poke {w : World} {p : Nat → Prop} {v : Value} {n : Nat} {X : List Int} (hX : X.length = n) (h : Ow 40 w p v n (CU X)) (b j : Nat) (z : Int) : ∃ X' : List Int, X'.length = n ∧ Ow 40 (w.setCell ⟨b, j, none⟩ (.int .u32 z)) p v n (CU X') := by
  rcases h.form with ⟨rfl, rfl, _⟩ | ⟨k, cap, cur, rfl, hp, hk, hg, h1, h2, h3, h4⟩
  · exact ⟨[], rfl, Ow.nil _ _ _⟩
  · by_cases hb : k = b
    · subst hb
      refine ⟨X.set j z, by simpa using hX, ⟨by rw [CU_len]; simp [hX], .inr ⟨k, cap, _, rfl, Nat.zero_le _, set_at hg j _, h1, h2, by simpa using h3, ?_⟩⟩, fun b hb => ?_⟩
      · rw [Nat.mul_one, Array.toList_setIfInBounds, List.take_set, h4, CU_set]
      · injection hb with hb
        have hb : k = b := hb
        subst hb
        exact ⟨hp, by simpa using hk⟩
    · refine ⟨X, hX, ⟨h.own.1, .inr ⟨k, cap, cur, rfl, Nat.zero_le _, (set_far _ _ hb).trans hg, h1, h2, by simpa using h3, by simpa using h4⟩⟩, fun b hb => ?_⟩
      have := h.at_ b hb
      exact ⟨this.1, by simpa using this.2⟩
structure KR (lo g wl len : Nat) (q : Nat → Prop) (M : List Int) (bf cf : Nat → Nat) (w wr : World) : Prop where
  bv : BV lo wr q g 32 true M []
  li : wr.heap[wl]? = some (.cells #[.slice (some ⟨bf 0, 0, none⟩) len (cf 0), .slice (some ⟨bf 1, 0, none⟩) len (cf 1), .slice (some ⟨bf 2, 0, none⟩) len (cf 2)] 28 (0, 0))
  ow : ∀ i, i < 3 → ∃ X : List Int, X.length = len ∧ Ow 40 wr (fun b => lo ≤ b ∧ ¬ q b) (.slice (some ⟨bf i, 0, none⟩) len (cf i)) len (CU X)
  be : Below lo w wr
theorem KR.cell {lo g wl len : Nat} {q : Nat → Prop} {M : List Int} {bf cf : Nat → Nat} {w wr : World} (h : KR lo g wl len q M bf cf w wr) {i : Nat} (hi : i < 3) : wr.cell? ⟨wl, i, none⟩ = some (.slice (some ⟨bf i, 0, none⟩) len (cf i)) := by
  rw [(row_cell h.li i).1]
  match i, hi with
  | 0, _ => rfl
  | 1, _ => rfl
  | 2, _ => rfl
theorem KR.at_ {lo g wl len : Nat} {q : Nat → Prop} {M : List Int} {bf cf : Nat → Nat} {w wr : World} (h : KR lo g wl len q M bf cf w wr) {i j : Nat} (hi : i < 3) (hj : j < len) : (∃ x, wr.cell? ⟨bf i, j, none⟩ = some (.int .u32 x)) ∧ wr.frozen? ⟨bf i, j, none⟩ = false := by
  obtain ⟨X, hX, o⟩ := h.ow i hi
  rcases o.form with ⟨h0, _⟩ | ⟨k, cap, cur, hv, hp, hk, hg, h1, h2, h3, h4⟩
  · cases h0
  · injection hv with hv
    injection hv with hv
    injection hv with hv
    subst hv
    refine ⟨⟨X.getD j 0, ?_⟩, (row_cell hg j).2⟩
    rw [(row_cell hg j).1]
    have := CU_at (l := X) (i := j) (x := X.getD j 0) (by rw [List.getD_eq_getElem?_getD, List.getElem?_eq_getElem (by omega)]; rfl)
    rw [← h4, List.getElem?_take_of_lt hj, Array.getElem?_toList] at this
    exact this
theorem KR.put {lo g wl len : Nat} {q : Nat → Prop} {M : List Int} {bf cf : Nat → Nat} {w wr : World} (h : KR lo g wl len q M bf cf w wr) {i : Nat} (hi : i < 3) (j : Nat) (z : Int) : KR lo g wl len q M bf cf w (wr.setCell ⟨bf i, j, none⟩ (.int .u32 z)) := by
  obtain ⟨X, hX, o⟩ := h.ow i hi
  rcases o.form with ⟨h0, _⟩ | ⟨k, cap, cur, hv, hp, hk, hg, h1, h2, h3, h4⟩
  · cases h0
  · injection hv with hv
    injection hv with hv
    injection hv with hv
    subst hv
    have hwl : wl ≠ bf i := by
      rintro e
      have := h.li
      rw [e, hg] at this
      injection this with this
      injection this with _ h2
      exact ne_us h2
    refine ⟨h.bv.fo ((Fo.refl (fun b => b = bf i) wr).setCell (.inl rfl) j _) (fun b hb e => hp.2 (by rw [← e]; exact hb)), (set_far _ _ hwl).trans h.li, fun k hk => ?_, h.be.setCell hp.1 _⟩
    obtain ⟨Y, hY, oy⟩ := h.ow k hk
    exact poke hY oy _ _ _
structure KO (lo g wl len : Nat) (q : Nat → Prop) (M : List Int) (bf cf : Nat → Nat) (w : World) (iv : Value) (wr : World) : Prop where
  ex : ∃ i : Nat, i ≤ 3 ∧ iv = .int .i64 (i : Int) ∧ KR lo g wl len q M bf cf w wr
structure KI (lo g wl len : Nat) (q : Nat → Prop) (M : List Int) (bf cf : Nat → Nat) (w : World) (iv : Value) (wr : World) : Prop where
  ex : ∃ i : Nat, i ≤ len ∧ iv = .int .i64 (i : Int) ∧ KR lo g wl len q M bf cf w wr
set_option maxRecDepth 100000 in
set_option maxHeartbeats 8000000 in
theorem keeps_walk (a : Option Addr) (len cap : Nat) (zs : List Int) (w : World) (h0 : IsRow .u32 w a len cap zs) : Calls Try.prog 5 #[.slice a len cap] w fun e w' => e = .returned (.bool true) ∧ Below w.heap.size w w' := by
  have hsq := h0.sq
  obtain ⟨M, hM⟩ : ∃ M, zs.take len = M := ⟨_, rfl⟩
  have hML : M.length = len := by rw [← hM, List.length_take]; have := h0.le; omega
  rw [hM] at hsq
  have HSQ : Hid (Sq w (fun b => b < w.heap.size) (.slice a len cap) len (CU M)) := hsq
  clear h0 hM hsq
  by_cases h40 : len ≤ 32
  rotate_left
  · have hq : (32 : Int) < (len : Int) := by omega
    have hqb : decide ((32 : Int) < (len : Int)) = true := by simpa using hq
    have SP := Lib.hid (speaks_any w)
    clear HSQ hML h40
    go_enter Try.func5, Try.ntmps5
    go_wp2_with fail
    refine SP.out.mono ?_
    rintro e w1 ⟨rfl, b1⟩
    have B1 := Lib.hid b1
    clear b1
    go_wp2_with fail
    refine (speaks_any w1).mono ?_
    rintro e w2 ⟨rfl, b2⟩
    have B2 : Hid (Below w.heap.size w w2) := B1.out.trans (b2.mono B1.out.size)
    clear b2
    go_wp2_with fail
    go_ret
    exact ⟨rfl, B2.out⟩

  have H40 : Hid (len ≤ 32) := h40
  have hq : ¬ (32 : Int) < (len : Int) := by omega
  have hqb : decide ((32 : Int) < (len : Int)) = false := by simpa using hq
  clear h40
  by_cases h0 : len = 0
  · subst h0
    have SP := Lib.hid (speaks_any w)
    clear HSQ hML
    go_enter Try.func5, Try.ntmps5
    go_wp2_with fail
    refine SP.out.mono ?_
    rintro e w1 ⟨rfl, b1⟩
    have B1 := Lib.hid b1
    clear b1
    go_wp2_with fail
    refine (speaks_any w1).mono ?_
    rintro e w2 ⟨rfl, b2⟩
    have B2 : Hid (Below w.heap.size w w2) := B1.out.trans (b2.mono B1.out.size)
    clear b2
    go_wp2_with fail
    go_ret
    exact ⟨rfl, B2.out⟩

  have HP : Hid (0 < len) := by unfold Hid; omega
  have h0b : ((len : Int) == 0) = false := by rw [beq_eq_false_iff_ne]; omega
  have h0c : ¬ (len : Int) = 0 := by omega
  have HML := Lib.hid hML
  clear hML h0
  have he := he_bd
  obtain ⟨lo, hlo⟩ : ∃ lo, w.heap.size = lo := ⟨_, rfl⟩
  have SP := Lib.hid (speaks_any w)
  have HLO : Hid (lo ≤ w.heap.size ∧ w.heap.size ≤ lo) := by unfold Hid; omega
  rw [hlo] at SP HSQ ⊢
  clear hlo
  go_enter Try.func5, Try.ntmps5
  go_wp2_with fail
  refine SP.out.mono ?_
  rintro e w1 ⟨rfl, b1⟩
  have B1 := Lib.hid b1
  clear b1 SP
  go_wp2_with fail
  refine (new_any 32 w1 (by omega) (by omega)).mono ?_
  rintro e w2 ⟨rfl, q2, b2⟩
  obtain ⟨g, hg⟩ : ∃ g, w1.heap.size = g := ⟨_, rfl⟩
  have HG : Hid (lo ≤ g) := by unfold Hid; have := B1.out.size; have := HLO.out; omega
  rw [hg] at q2 b2
  have Q2 := Lib.hid (q2.less HG.out)
  have B2 : Hid (Below lo w w2) := B1.out.trans (b2.mono HG.out)
  simp only [hg]
  clear q2 b2 B1 hg
  go_wp2_with fail
  have S2 := Lib.hid (sq_low HSQ.out B2.out)
  have CC := U.uclone_any _ _ _ _ w2 S2.out.st (CU_one _) (by have := H40.out; omega)
  refine CC.mono ?_
  rintro e w3 ⟨⟨r, rfl, r3⟩, b3⟩
  obtain ⟨Ar, cr, rfl⟩ := slice_form r3
  have Q3 := Lib.hid (Q2.out.below b3)
  have O3 : Hid (Ow 40 w3 (fun b => lo ≤ b ∧ ¬ (b = g)) (.slice Ar len cr) len (CU M)) := (Ow.of_own r3).imp fun b _ hb => by
    have h1 := Q2.out.low g rfl
    exact ⟨by have := Q2.out.nil; omega, fun e => by subst e; omega⟩
  have B3 : Hid (Below lo w w3) := B2.out.trans (b3.mono Q2.out.nil)
  clear r3 b3 CC Q2 B2
  go_wp2_with fail
  have hh : Sq w3 (fun b => lo ≤ b ∧ ¬ (b = g)) (.slice Ar len cr) M.length (CU M) := by rw [HML.out]; exact O3.out.sq
  refine (show_any lo _ g 32 false [] [] _ _ M w3 Q3.out hh (by have := H40.out; have := HML.out; omega)).mono ?_
  rintro e w4 ⟨r4, q, rfl, o4, q4, n4⟩
  obtain ⟨A4, c4, rfl⟩ := o4.sl
  have Q4 := Lib.hid q4
  have O4 := Lib.hid (O3.out.nx n4)
  have B4 : Hid (Below lo w w4) := B3.out.trans (Q3.out.nx n4)
  clear o4 q4 n4 hh Q3 O3 B3
  go_wp2_with fail
  refine (shown_any lo q g 32 true M [] w4 Q4.out).mono ?_
  rintro e w5 ⟨r, rfl, r5, b5⟩
  rw [HML.out] at r5
  obtain ⟨A5, c5, rfl⟩ := slice_form r5
  have O5 := Lib.hid (O4.out.below b5)
  have Q5 := Lib.hid (Q4.out.below b5)
  have P5 : Hid (Ow 40 w5 (fun b => lo ≤ b ∧ ¬ q b) (.slice A5 len c5) len (CU M)) := (Ow.of_own r5).imp fun b _ hb => ⟨by have := Q4.out.nil; omega, fun hq => by have := (Q4.out.low b hq).2; omega⟩
  have B5 : Hid (Below lo w w5) := B4.out.trans (b5.mono Q4.out.nil)
  clear r5 b5 Q4 O4 B4
  go_wp2_with fail
  refine (read_any lo q g 32 true M [] 1 w5 Q5.out (by simp)).mono ?_
  rintro e w6 ⟨r, q', rfl, o6, q6, n6⟩
  rw [HML.out] at o6
  obtain ⟨A6, c6, rfl⟩ := o6.sl
  have O6 := Lib.hid (O5.out.nx n6)
  have P6 := Lib.hid (P5.out.nx n6)
  have R6 : Hid (Ow 40 w6 (fun b => lo ≤ b ∧ ¬ q' b) (.slice A6 len c6) len (CU M)) := o6.imp fun b _ hb => ⟨by have := Q5.out.nil; omega, hb.2⟩
  have Q6 : Hid (BV lo w6 q' g 32 true M []) := q6
  have B6 : Hid (Below lo w w6) := B5.out.trans (Q5.out.nx n6)
  clear o6 q6 n6 Q5 O5 P5 B5
  have hone : ∀ {A : Option Addr} {c : Nat} {p : Nat → Prop} {W : World}, Ow 40 W p (.slice A len c) len (CU M) → ∃ b, A = some ⟨b, 0, none⟩ := fun {A c p W} h => by
    rcases h.form with ⟨_, h1, _⟩ | ⟨b, cap, cur, hv, _⟩
    · have := HP.out; omega
    · injection hv with hv; exact ⟨b, hv⟩
  obtain ⟨z0, rfl⟩ := hone O6.out
  obtain ⟨z1, rfl⟩ := hone P6.out
  obtain ⟨z2, rfl⟩ := hone R6.out
  obtain ⟨bf, hb0, hb1, hb2⟩ : ∃ bf : Nat → Nat, z0 = bf 0 ∧ z1 = bf 1 ∧ z2 = bf 2 := ⟨fun i => if i = 0 then z0 else if i = 1 then z1 else z2, rfl, rfl, rfl⟩
  obtain ⟨cf, hc0, hc1, hc2⟩ : ∃ cf : Nat → Nat, cr = cf 0 ∧ c5 = cf 1 ∧ c6 = cf 2 := ⟨fun i => if i = 0 then cr else if i = 1 then c5 else c6, rfl, rfl, rfl⟩
  subst hb0 hb1 hb2 hc0 hc1 hc2
  have hx : Below w6.heap.size w6 (w6.alloc (.cells #[.slice (some ⟨bf 0, 0, none⟩) len (cf 0), .slice (some ⟨bf 1, 0, none⟩) len (cf 1), .slice (some ⟨bf 2, 0, none⟩) len (cf 2)] 28)) := (Below.refl _ _).alloc (Nat.le_refl _) _
  have K7 : Hid (KR lo g w6.heap.size len q' M bf cf w (w6.alloc (.cells #[.slice (some ⟨bf 0, 0, none⟩) len (cf 0), .slice (some ⟨bf 1, 0, none⟩) len (cf 1), .slice (some ⟨bf 2, 0, none⟩) len (cf 2)] 28))) := by
    refine ⟨Q6.out.below hx, heap_alloc_new _ _, fun i hi => ⟨M, HML.out, ?_⟩, B6.out.trans (hx.mono Q6.out.nil)⟩
    match i, hi with
    | 0, _ => exact O6.out.below hx
    | 1, _ => exact P6.out.below hx
    | 2, _ => exact R6.out.below hx
  obtain ⟨wl, hwl⟩ : ∃ wl, w6.heap.size = wl := ⟨_, rfl⟩
  have HWL : Hid (lo ≤ wl) := by have := Q6.out.nil; unfold Hid; omega
  rw [hwl] at K7
  clear O6 P6 R6 Q6 B6 hone hx
  go_wp2_with fail
  try simp only [hwl]
  go_loopw [58] (fun iv wr => KO lo g wl len q' M bf cf w iv wr) (fun i _ => 3 - (intOf i).toNat)
  case atStart => exact ⟨⟨0, by omega, rfl, K7.out⟩⟩
  case round =>
    obtain ⟨⟨i, hi, rfl, hk⟩⟩ := hrel
    have HK := Lib.hid hk
    obtain ⟨wo, hwo⟩ : ∃ wo, wo = wr := ⟨_, rfl⟩
    subst hwo
    clear hk
    by_cases hlt : i < 3
    · have hiI : (i : Int) < 3 := by omega
      have HX : Hid (i < 3) := hlt
      have e0 := HK.out.cell hlt
      clear hi hlt
      go_wp2_with fail
      go_loopw [64] (fun iv wr => KI lo g wl len q' M bf cf w iv wr) (fun i _ => 33 - (intOf i).toNat)
      case atStart => exact ⟨⟨0, Nat.zero_le _, rfl, HK.out⟩⟩
      case round =>
        obtain ⟨⟨j, hj, rfl, hk⟩⟩ := hrel
        have HKj := Lib.hid hk
        clear hk e0
        by_cases hlt : j < len
        · have hjI : (j : Int) < (len : Int) := by omega
          have hj32 : (j : Int) < 32 := by have := H40.out; omega
          have HXj : Hid (j < len) := hlt
          obtain ⟨⟨x, d0⟩, f0⟩ := HKj.out.at_ HX.out hlt
          have KN : Hid (KR lo g wl len q' M bf cf w (wr.setCell ⟨bf i, j, none⟩ (.int .u32 (IntKind.u32.wrap (x + 1))))) := HKj.out.put HX.out j _
          clear hlt hj
          go_wp2_with fail
          go_roundw
          case rel =>
            have Q : KI lo g wl len q' M bf cf w (.int .i64 ((j : Int) + 1)) (wr.setCell ⟨bf i, j, none⟩ (.int .u32 (IntKind.u32.wrap (x + 1)))) := ⟨⟨j + 1, HXj.out, by go_num, KN.out⟩⟩
            first | exact Q | ((repeat apply Exists.intro); exact ⟨Q, rfl⟩)
          case measure => have := HXj.out; have := H40.out; simp [intOf]; omega
        · have hjI : ¬ (j : Int) < (len : Int) := by omega
          clear hlt hj
          go_wp2_with fail
          go_roundw
          case rel =>
            have Q : KO lo g wl len q' M bf cf w (.int .i64 ((i : Int) + 1)) wr := ⟨⟨i + 1, HX.out, by go_num, HKj.out⟩⟩
            first | exact Q | ((repeat apply Exists.intro); exact ⟨Q, rfl⟩)
          case measure => have := HX.out; simp [intOf]; omega
    · have hiI : ¬ (i : Int) < 3 := by omega
      clear hi hlt
      go_wp2_with fail
      refine (shown_any lo q' g 32 true M [] _ HK.out.bv).mono ?_
      rintro e w8 ⟨r, rfl, r8, b8⟩
      obtain ⟨A8, c8, rfl⟩ := slice_form r8
      have B8 : Hid (Below lo w w8) := HK.out.be.trans (b8.mono HK.out.bv.nil)
      have hm : Sq w8 (fun b => b < lo) (.slice a len cap) M.length (CU M) := by
        have := sq_low HSQ.out B8.out
        rw [HML.out]; exact this
      have EQ := Lib.hid (uequal_same _ _ _ _ M w8 (Ow.of_own r8).sq.st hm.st (by have := HML.out; have := H40.out; omega))
      clear r8 b8 hm
      go_wp2_with fail
      refine EQ.out.mono ?_
      rintro e w9 ⟨rfl, b9⟩
      have B9 : Hid (Below lo w w9) := B8.out.trans (b9.mono (by have := B8.out.size; have := HLO.out; omega))
      clear b9
      go_wp2_with fail
      go_ret
      exact ⟨rfl, B9.out⟩
end Go.Proofs.Ytfmcmhgpgkeplaa.B
