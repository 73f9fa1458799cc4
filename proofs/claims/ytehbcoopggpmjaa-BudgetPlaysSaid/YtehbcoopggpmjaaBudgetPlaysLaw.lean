/-
  BudgetPlays' walk. Each statement bears its own conditions.
-/
import Derived.Test.YtehbcoopggpmjaaBgY
namespace Go.Proofs.Ytehbcoopggpmjaa.Bg
open Go.RowKit Go.ChangeShapes Go.WideShapes Go.ChangeAt Go.Proofs.Ytehbcoopggpmjaa.F
set_option linter.unusedVariables false
set_option linter.unusedSimpArgs false
theorem rreset_any (Z P F K U t : Int) (lv : Value) (L : List (Int × Int)) (p : Nat → Prop) (w : World) (hr : RelS ⟨Z, P, F, K, U⟩ L) (hl : LV w p lv L) : Calls Try.prog 19 #[.agg #[.int .i64 Z, .int .i64 P, .int .i64 F, lv], .int .i64 t] w fun e w' => ∃ lv2 L2, e = .returned (.agg #[.int .i64 (resetS ⟨Z, P, F, K, U⟩ t).size, .int .i64 (resetS ⟨Z, P, F, K, U⟩ t).per, .int .i64 (resetS ⟨Z, P, F, K, U⟩ t).frm, lv2]) ∧ RelS (resetS ⟨Z, P, F, K, U⟩ t) L2 ∧ L2.length ≤ L.length ∧ LV w' p lv2 L2 ∧ Below w.heap.size w w' := by
  obtain ⟨A, c, rfl, _⟩ := hl.ex
  by_cases h : 0 ≤ t ∧ t ≤ 1099511627776
  · refine (rreset_ok Z P F t A c L w h).mono ?_
    rintro e w' ⟨rfl, hb⟩
    unfold resetS
    rw [if_pos h]
    exact ⟨_, [], rfl, RelS.new _ _ _, Nat.zero_le _, LV.nil _ _, hb⟩
  · refine (rreset_no Z P F t A c L w h).mono ?_
    rintro e w' ⟨rfl, hb⟩
    unfold resetS
    rw [if_neg h]
    exact ⟨_, L, rfl, hr, Nat.le_refl _, hl.below hb, hb⟩
structure PyR (lo Rb len : Nat) (w0 : World) (sv iv : Value) (wr : World) : Prop where
  ex : ∃ (i g : Nat) (s : Sv) (L : List (Int × Int)) (lv : Value), i ≤ len ∧ i ≤ 60 ∧ L.length ≤ i ∧ sv = .pointer (some ⟨g, 0, none⟩) ∧ iv = .int .i64 (i : Int) ∧ PB lo Rb g w0 wr s L lv
set_option maxRecDepth 100000 in
set_option maxHeartbeats 128000000 in
theorem plays_walk (a0 a1 : Int) (a2 : Option Addr) (len cap : Nat) (xs : List (Int × Int × Int)) (a3 : Int) (w : World) (h2 : Row w 3 (RAct w) (.slice a2 len cap) xs) : Calls Try.prog 3 #[.int .i64 a0, .int .i64 a1, .slice a2 len cap, .int .i64 a3] w fun e w' => e = .returned (.bool true) ∧ Below w.heap.size w w' := by
  have he := he_bg
  have HA := Lib.hid h2
  obtain ⟨lo, hlo⟩ : ∃ lo, w.heap.size = lo := ⟨_, rfl⟩
  have HLO := Lib.hid hlo
  clear h2
  by_cases hn : newI a0 a1
  rotate_left
  · have NW := Lib.hid (new_bad a0 a1 w hn)
    have RN := Lib.hid (fun W => rnew_bad a0 a1 W hn)
    rw [hlo]
    clear hn hlo
    go_enter Try.func3, Try.ntmps3
    go_wp2_with fail
    refine NW.out.mono ?_
    rintro e w1 ⟨rfl, hw⟩
    subst hw
    go_wp2_with fail
    refine (RN.out _).mono ?_
    rintro e w2 ⟨rfl, b2⟩
    have B2 : Hid (Below lo w1 (w2.alloc (.cells #[.int .i64 0, .int .i64 0, .int .i64 0, .slice none 0 0] 29))) := by
      have b2' : Below lo w1 w2 := by rw [← HLO.out]; exact b2
      exact b2'.alloc (by have := b2'.size; have := HLO.out; omega) _
    clear b2
    obtain ⟨w3, hw3⟩ : ∃ W, w2.alloc (.cells #[.int .i64 0, .int .i64 0, .int .i64 0, .slice none 0 0] 29) = W := ⟨_, rfl⟩
    rw [hw3] at B2
    have HW3 := Lib.hid hw3
    clear hw3
    go_upto_region 3 with fail
    simp only [HW3.out]
    go_wp2_with fail
    refine (known_any _).mono ?_
    rintro e w4 ⟨rfl, b4⟩
    have B4 : Hid (Below lo w1 w4) := B2.out.trans (b4.mono (by have := B2.out.size; have := HLO.out; omega))
    clear b4
    go_wp2_with fail
    go_ret
    exact ⟨rfl, B4.out⟩
  have NW := Lib.hid (new_any a0 a1 w hn)
  have RN := Lib.hid (fun W => rnew_ok a0 a1 W hn)
  have NI := Lib.hid hn
  rw [hlo] at NW ⊢
  clear hn hlo
  go_enter Try.func3, Try.ntmps3
  go_wp2_with fail
  refine NW.out.mono ?_
  rintro e w1 ⟨rfl, q1, b1⟩
  have Q1 := Lib.hid q1
  have B1 := Lib.hid b1
  clear q1 b1 NW
  go_wp2_with fail
  refine (RN.out w1).mono ?_
  rintro e w2 ⟨rfl, b2⟩
  obtain ⟨w3, hw3⟩ : ∃ W, w2.alloc (.cells #[.int .i64 a0, .int .i64 a1, .int .i64 0, .slice none 0 0] 29) = W := ⟨_, rfl⟩
  have b3 : Below w2.heap.size w2 w3 := by rw [← hw3]; exact (Below.refl _ _).alloc (Nat.le_refl _) _
  obtain ⟨Rb, hRb⟩ : ∃ b, w2.heap.size = b := ⟨_, rfl⟩
  have HPB : Hid (PB lo Rb lo w w3 ⟨a0, a1, 0, 0, 0⟩ [] (.slice none 0 0)) :=
    ⟨(Q1.out.below b2).below b3, RelS.new _ _ _, LV.nil _ _, by rw [← hw3, ← hRb]; exact heap_alloc_new _ _, by have := (Q1.out.below b2).lt; omega, ⟨by have := (Q1.out.below b2).lt; omega, Nat.le_refl _⟩, (B1.out.trans (b2.mono (by have := Q1.out.lt; omega))).trans (b3.mono (by have := (Q1.out.below b2).lt; omega))⟩
  clear b2 b3 Q1 B1
  have HW3 := Lib.hid hw3
  have HRB := Lib.hid hRb
  clear hw3 hRb
  go_upto_region 3 with fail
  simp only [HW3.out, HRB.out]
  clear HW3 HRB
  go_upto_block 0 with fail
  go_wp2_with fail
  go_loopw [9, 13] (fun sv iv wr => PyR lo Rb len w sv iv wr) (fun _ i _ => len - (intOf i).toNat)
  case atStart => exact ⟨⟨0, lo, _, _, _, Nat.zero_le _, by omega, Nat.le_refl _, rfl, rfl, HPB.out⟩⟩
  case round =>
    clear HPB
    obtain ⟨vr, hvr⟩ : ∃ w', w' = wr := ⟨_, rfl⟩
    subst hvr
    obtain ⟨⟨i, g, s, L, lv, hi, hi60, hL, rfl, rfl, hp⟩⟩ := hrel
    have HP := Lib.hid hp
    have HLL := Lib.hid hL
    have HI := Lib.hid (And.intro hi hi60)
    clear hp hL
    by_cases hlt : i < len
    rotate_left
    · have hjI : ¬ (i : Int) < (len : Int) := by omega
      have g0 : decide ((i : Int) < (len : Int)) = false := by simp; omega
      clear hlt hi hi60
      go_upto_region 33 with fail
      obtain ⟨l3, hl3⟩ : ∃ x, leftV s a3 = x := ⟨_, rfl⟩
      have HL3 := Lib.hid hl3
      clear hl3
      refine wp_region_held_drew (S := (fun w' => w'.cell? ⟨Rb, 0, none⟩ = some (.int .i64 s.size) ∧ w'.cell? ⟨Rb, 1, none⟩ = some (.int .i64 s.per) ∧ w'.cell? ⟨Rb, 2, none⟩ = some (.int .i64 s.frm) ∧ w'.cell? ⟨Rb, 3, none⟩ = some (lv))) (by kernel_rfl) ⟨(row_cell HP.out.bx 0).1.trans rfl, (row_cell HP.out.bx 1).1.trans rfl, (row_cell HP.out.bx 2).1.trans rfl, (row_cell HP.out.bx 3).1.trans rfl⟩ (fun hHeld => ?_)
      obtain ⟨v1, hv1⟩ : ∃ W, vr.drew = W := ⟨_, rfl⟩
      have hb : Below vr.heap.size vr v1 := by rw [← hv1]; exact (Below.refl _ _).drew
      have HP_v1 : Hid (PB lo Rb g w v1 s L lv) := HP.out.below hb
      clear hb
      simp only [hv1]
      clear hv1
      refine wpAnyH_ready (rs := [0]) (by kernel_rfl) (by simp) ?_
      refine AllReadyH.cons rfl (fun K0 hK => ?_) AllReadyH.nil
      try go_simp
      go_at_call 11
      refine (known_any v1).mono ?_
      rintro e v2 ⟨rfl, hb⟩
      have HP_v2 : Hid (PB lo Rb g w v2 s L lv) := HP_v1.out.below hb
      clear hb
      try go_wp2_with fail
      refine hK.out _ _ ⟨(row_cell HP_v2.out.bx 0).1.trans rfl, (row_cell HP_v2.out.bx 1).1.trans rfl, (row_cell HP_v2.out.bx 2).1.trans rfl, (row_cell HP_v2.out.bx 3).1.trans rfl⟩ (fun hHeld => ?_)
      clear hK K0
      try simp only [Act.put, List.setIfInBounds_toArray, List.set_cons_zero, List.set_cons_succ]
      refine takeD (i := 1) (d := some 194) (v := ?_) _ rfl rfl (by kernel_rfl) (by kernel_rfl) (by kernel_rfl) (fun _ _ _ h => h) (by rfl) ?_ ⟨(row_cell HP_v2.out.bx 0).1.trans rfl, (row_cell HP_v2.out.bx 1).1.trans rfl, (row_cell HP_v2.out.bx 2).1.trans rfl, (row_cell HP_v2.out.bx 3).1.trans rfl⟩ ?_
      rotate_left
      · (intro w hSw; (try dsimp only at hSw); go_simp) <;> with_reducible rfl
      try simp only [Act.put, List.setIfInBounds_toArray, List.set_cons_zero, List.set_cons_succ]
      refine takeD (i := 2) (d := some 195) (v := ?_) _ rfl rfl (by kernel_rfl) (by kernel_rfl) (by kernel_rfl) (fun _ _ _ h => h) (by rfl) ?_ ⟨(row_cell HP_v2.out.bx 0).1.trans rfl, (row_cell HP_v2.out.bx 1).1.trans rfl, (row_cell HP_v2.out.bx 2).1.trans rfl, (row_cell HP_v2.out.bx 3).1.trans rfl⟩ ?_
      rotate_left
      · (intro w hSw; (try dsimp only at hSw); go_simp) <;> with_reducible rfl
      try simp only [Act.put, List.setIfInBounds_toArray, List.set_cons_zero, List.set_cons_succ]
      refine takeD (i := 3) (d := some 196) (v := ?_) _ rfl rfl (by kernel_rfl) (by kernel_rfl) (by kernel_rfl) (fun _ _ _ h => h) (by rfl) ?_ ⟨(row_cell HP_v2.out.bx 0).1.trans rfl, (row_cell HP_v2.out.bx 1).1.trans rfl, (row_cell HP_v2.out.bx 2).1.trans rfl, (row_cell HP_v2.out.bx 3).1.trans rfl⟩ ?_
      rotate_left
      · (intro w hSw; (try dsimp only at hSw); go_simp) <;> with_reducible rfl
      try simp only [Act.put, List.setIfInBounds_toArray, List.set_cons_zero, List.set_cons_succ]
      refine takeD (i := 5) (d := some 198) (v := ?_) _ rfl rfl (by kernel_rfl) (by kernel_rfl) (by kernel_rfl) (fun _ _ _ h => h) (by rfl) ?_ ⟨(row_cell HP_v2.out.bx 0).1.trans rfl, (row_cell HP_v2.out.bx 1).1.trans rfl, (row_cell HP_v2.out.bx 2).1.trans rfl, (row_cell HP_v2.out.bx 3).1.trans rfl⟩ ?_
      rotate_left
      · (intro w hSw; (try dsimp only at hSw); go_simp) <;> with_reducible rfl
      try simp only [Act.put, List.setIfInBounds_toArray, List.set_cons_zero, List.set_cons_succ]
      refine takeD (i := 6) (d := some 199) (v := ?_) _ rfl rfl (by kernel_rfl) (by kernel_rfl) (by kernel_rfl) (fun _ _ _ h => h) (by rfl) ?_ ⟨(row_cell HP_v2.out.bx 0).1.trans rfl, (row_cell HP_v2.out.bx 1).1.trans rfl, (row_cell HP_v2.out.bx 2).1.trans rfl, (row_cell HP_v2.out.bx 3).1.trans rfl⟩ ?_
      rotate_left
      · (intro w hSw; (try dsimp only at hSw); go_simp) <;> with_reducible rfl
      try simp only [Act.put, List.setIfInBounds_toArray, List.set_cons_zero, List.set_cons_succ]
      refine wpAnyH_ready (rs := [4]) (by kernel_rfl) (by simp) ?_
      refine AllReadyH.cons rfl (fun K0 hK => ?_) AllReadyH.nil
      try go_simp
      go_at_call 12
      refine (left_any g s a3 v2 HP_v2.out.sv).mono ?_
      rintro e v3 ⟨rfl, hq⟩
      rw [HL3.out]
      have hb : Below v2.heap.size v2 v3 := by obtain ⟨m, rfl⟩ := hq; exact quiet_below rfl
      clear hq
      have HP_v3 : Hid (PB lo Rb g w v3 s L lv) := HP_v2.out.below hb
      clear hb
      try go_wp2_with fail
      refine hK.out _ _ ⟨(row_cell HP_v3.out.bx 0).1.trans rfl, (row_cell HP_v3.out.bx 1).1.trans rfl, (row_cell HP_v3.out.bx 2).1.trans rfl, (row_cell HP_v3.out.bx 3).1.trans rfl⟩ (fun hHeld => ?_)
      clear hK K0
      try simp only [Act.put, List.setIfInBounds_toArray, List.set_cons_zero, List.set_cons_succ]
      refine wpAnyH_ready (rs := [7]) (by kernel_rfl) (by simp) ?_
      refine AllReadyH.cons rfl (fun K0 hK => ?_) AllReadyH.nil
      try go_simp
      go_at_call 13
      refine (rleft_any s.size s.per s.frm s.last s.used a3 lv L _ v3 HP_v3.out.sv.ok HP_v3.out.rel HP_v3.out.lst (by have := HLL.out; have := HI.out.2; omega)).mono ?_
      rintro e v4 ⟨rfl, hb⟩
      rw [show leftV ⟨s.size, s.per, s.frm, s.last, s.used⟩ a3 = _ from HL3.out]
      have HP_v4 : Hid (PB lo Rb g w v4 s L lv) := HP_v3.out.below hb
      clear hb
      try go_wp2_with fail
      refine hK.out _ _ ⟨(row_cell HP_v4.out.bx 0).1.trans rfl, (row_cell HP_v4.out.bx 1).1.trans rfl, (row_cell HP_v4.out.bx 2).1.trans rfl, (row_cell HP_v4.out.bx 3).1.trans rfl⟩ (fun hHeld => ?_)
      clear hK K0
      try simp only [Act.put, List.setIfInBounds_toArray, List.set_cons_zero, List.set_cons_succ]
      refine takeD (i := 8) (d := some 201) (v := ?_) _ rfl rfl (by kernel_rfl) (by kernel_rfl) (by kernel_rfl) (fun _ _ _ h => h) (by rfl) ?_ ⟨(row_cell HP_v4.out.bx 0).1.trans rfl, (row_cell HP_v4.out.bx 1).1.trans rfl, (row_cell HP_v4.out.bx 2).1.trans rfl, (row_cell HP_v4.out.bx 3).1.trans rfl⟩ ?_
      rotate_left
      · (intro w hSw; (try dsimp only at hSw); go_simp) <;> with_reducible rfl
      try simp only [Act.put, List.setIfInBounds_toArray, List.set_cons_zero, List.set_cons_succ]
      refine takeD (i := 9) (d := some 202) (v := ?_) _ rfl rfl (by kernel_rfl) (by kernel_rfl) (by kernel_rfl) (fun _ _ _ h => h) (by rfl) ?_ ⟨(row_cell HP_v4.out.bx 0).1.trans rfl, (row_cell HP_v4.out.bx 1).1.trans rfl, (row_cell HP_v4.out.bx 2).1.trans rfl, (row_cell HP_v4.out.bx 3).1.trans rfl⟩ ?_
      rotate_left
      · (intro w hSw; (try dsimp only at hSw); go_simp) <;> with_reducible rfl
      try simp only [Act.put, List.setIfInBounds_toArray, List.set_cons_zero, List.set_cons_succ]
      refine takeD (i := 10) (d := some 8) (v := ?_) _ rfl rfl (by kernel_rfl) (by kernel_rfl) (by kernel_rfl) (fun _ _ _ h => h) (by rfl) ?_ ⟨(row_cell HP_v4.out.bx 0).1.trans rfl, (row_cell HP_v4.out.bx 1).1.trans rfl, (row_cell HP_v4.out.bx 2).1.trans rfl, (row_cell HP_v4.out.bx 3).1.trans rfl⟩ ?_
      rotate_left
      · (intro w hSw; (try dsimp only at hSw); go_simp) <;> with_reducible rfl
      try simp only [Act.put, List.setIfInBounds_toArray, List.set_cons_zero, List.set_cons_succ]
      refine wpAnyH_done (by kernel_rfl) ?_ _
      go_wp2_with fail
      go_ret
      exact ⟨rfl, HP_v4.out.be⟩
    by_cases h60 : i < 60
    rotate_left
    · have hjI : (i : Int) < (len : Int) := by omega
      have hcI : ¬ (i : Int) < 60 := by omega
      have g0 : decide ((i : Int) < (len : Int)) = true := by simp; omega
      have g3 : decide ((i : Int) < 60) = false := by simp; omega
      clear hlt h60 hi hi60
      go_upto_region 33 with fail
      obtain ⟨l3, hl3⟩ : ∃ x, leftV s a3 = x := ⟨_, rfl⟩
      have HL3 := Lib.hid hl3
      clear hl3
      refine wp_region_held_drew (S := (fun w' => w'.cell? ⟨Rb, 0, none⟩ = some (.int .i64 s.size) ∧ w'.cell? ⟨Rb, 1, none⟩ = some (.int .i64 s.per) ∧ w'.cell? ⟨Rb, 2, none⟩ = some (.int .i64 s.frm) ∧ w'.cell? ⟨Rb, 3, none⟩ = some (lv))) (by kernel_rfl) ⟨(row_cell HP.out.bx 0).1.trans rfl, (row_cell HP.out.bx 1).1.trans rfl, (row_cell HP.out.bx 2).1.trans rfl, (row_cell HP.out.bx 3).1.trans rfl⟩ (fun hHeld => ?_)
      obtain ⟨v1, hv1⟩ : ∃ W, vr.drew = W := ⟨_, rfl⟩
      have hb : Below vr.heap.size vr v1 := by rw [← hv1]; exact (Below.refl _ _).drew
      have HP_v1 : Hid (PB lo Rb g w v1 s L lv) := HP.out.below hb
      clear hb
      simp only [hv1]
      clear hv1
      refine wpAnyH_ready (rs := [0]) (by kernel_rfl) (by simp) ?_
      refine AllReadyH.cons rfl (fun K0 hK => ?_) AllReadyH.nil
      try go_simp
      go_at_call 11
      refine (known_any v1).mono ?_
      rintro e v2 ⟨rfl, hb⟩
      have HP_v2 : Hid (PB lo Rb g w v2 s L lv) := HP_v1.out.below hb
      clear hb
      try go_wp2_with fail
      refine hK.out _ _ ⟨(row_cell HP_v2.out.bx 0).1.trans rfl, (row_cell HP_v2.out.bx 1).1.trans rfl, (row_cell HP_v2.out.bx 2).1.trans rfl, (row_cell HP_v2.out.bx 3).1.trans rfl⟩ (fun hHeld => ?_)
      clear hK K0
      try simp only [Act.put, List.setIfInBounds_toArray, List.set_cons_zero, List.set_cons_succ]
      refine takeD (i := 1) (d := some 194) (v := ?_) _ rfl rfl (by kernel_rfl) (by kernel_rfl) (by kernel_rfl) (fun _ _ _ h => h) (by rfl) ?_ ⟨(row_cell HP_v2.out.bx 0).1.trans rfl, (row_cell HP_v2.out.bx 1).1.trans rfl, (row_cell HP_v2.out.bx 2).1.trans rfl, (row_cell HP_v2.out.bx 3).1.trans rfl⟩ ?_
      rotate_left
      · (intro w hSw; (try dsimp only at hSw); go_simp) <;> with_reducible rfl
      try simp only [Act.put, List.setIfInBounds_toArray, List.set_cons_zero, List.set_cons_succ]
      refine takeD (i := 2) (d := some 195) (v := ?_) _ rfl rfl (by kernel_rfl) (by kernel_rfl) (by kernel_rfl) (fun _ _ _ h => h) (by rfl) ?_ ⟨(row_cell HP_v2.out.bx 0).1.trans rfl, (row_cell HP_v2.out.bx 1).1.trans rfl, (row_cell HP_v2.out.bx 2).1.trans rfl, (row_cell HP_v2.out.bx 3).1.trans rfl⟩ ?_
      rotate_left
      · (intro w hSw; (try dsimp only at hSw); go_simp) <;> with_reducible rfl
      try simp only [Act.put, List.setIfInBounds_toArray, List.set_cons_zero, List.set_cons_succ]
      refine takeD (i := 3) (d := some 196) (v := ?_) _ rfl rfl (by kernel_rfl) (by kernel_rfl) (by kernel_rfl) (fun _ _ _ h => h) (by rfl) ?_ ⟨(row_cell HP_v2.out.bx 0).1.trans rfl, (row_cell HP_v2.out.bx 1).1.trans rfl, (row_cell HP_v2.out.bx 2).1.trans rfl, (row_cell HP_v2.out.bx 3).1.trans rfl⟩ ?_
      rotate_left
      · (intro w hSw; (try dsimp only at hSw); go_simp) <;> with_reducible rfl
      try simp only [Act.put, List.setIfInBounds_toArray, List.set_cons_zero, List.set_cons_succ]
      refine takeD (i := 5) (d := some 198) (v := ?_) _ rfl rfl (by kernel_rfl) (by kernel_rfl) (by kernel_rfl) (fun _ _ _ h => h) (by rfl) ?_ ⟨(row_cell HP_v2.out.bx 0).1.trans rfl, (row_cell HP_v2.out.bx 1).1.trans rfl, (row_cell HP_v2.out.bx 2).1.trans rfl, (row_cell HP_v2.out.bx 3).1.trans rfl⟩ ?_
      rotate_left
      · (intro w hSw; (try dsimp only at hSw); go_simp) <;> with_reducible rfl
      try simp only [Act.put, List.setIfInBounds_toArray, List.set_cons_zero, List.set_cons_succ]
      refine takeD (i := 6) (d := some 199) (v := ?_) _ rfl rfl (by kernel_rfl) (by kernel_rfl) (by kernel_rfl) (fun _ _ _ h => h) (by rfl) ?_ ⟨(row_cell HP_v2.out.bx 0).1.trans rfl, (row_cell HP_v2.out.bx 1).1.trans rfl, (row_cell HP_v2.out.bx 2).1.trans rfl, (row_cell HP_v2.out.bx 3).1.trans rfl⟩ ?_
      rotate_left
      · (intro w hSw; (try dsimp only at hSw); go_simp) <;> with_reducible rfl
      try simp only [Act.put, List.setIfInBounds_toArray, List.set_cons_zero, List.set_cons_succ]
      refine wpAnyH_ready (rs := [4]) (by kernel_rfl) (by simp) ?_
      refine AllReadyH.cons rfl (fun K0 hK => ?_) AllReadyH.nil
      try go_simp
      go_at_call 12
      refine (left_any g s a3 v2 HP_v2.out.sv).mono ?_
      rintro e v3 ⟨rfl, hq⟩
      rw [HL3.out]
      have hb : Below v2.heap.size v2 v3 := by obtain ⟨m, rfl⟩ := hq; exact quiet_below rfl
      clear hq
      have HP_v3 : Hid (PB lo Rb g w v3 s L lv) := HP_v2.out.below hb
      clear hb
      try go_wp2_with fail
      refine hK.out _ _ ⟨(row_cell HP_v3.out.bx 0).1.trans rfl, (row_cell HP_v3.out.bx 1).1.trans rfl, (row_cell HP_v3.out.bx 2).1.trans rfl, (row_cell HP_v3.out.bx 3).1.trans rfl⟩ (fun hHeld => ?_)
      clear hK K0
      try simp only [Act.put, List.setIfInBounds_toArray, List.set_cons_zero, List.set_cons_succ]
      refine wpAnyH_ready (rs := [7]) (by kernel_rfl) (by simp) ?_
      refine AllReadyH.cons rfl (fun K0 hK => ?_) AllReadyH.nil
      try go_simp
      go_at_call 13
      refine (rleft_any s.size s.per s.frm s.last s.used a3 lv L _ v3 HP_v3.out.sv.ok HP_v3.out.rel HP_v3.out.lst (by have := HLL.out; have := HI.out.2; omega)).mono ?_
      rintro e v4 ⟨rfl, hb⟩
      rw [show leftV ⟨s.size, s.per, s.frm, s.last, s.used⟩ a3 = _ from HL3.out]
      have HP_v4 : Hid (PB lo Rb g w v4 s L lv) := HP_v3.out.below hb
      clear hb
      try go_wp2_with fail
      refine hK.out _ _ ⟨(row_cell HP_v4.out.bx 0).1.trans rfl, (row_cell HP_v4.out.bx 1).1.trans rfl, (row_cell HP_v4.out.bx 2).1.trans rfl, (row_cell HP_v4.out.bx 3).1.trans rfl⟩ (fun hHeld => ?_)
      clear hK K0
      try simp only [Act.put, List.setIfInBounds_toArray, List.set_cons_zero, List.set_cons_succ]
      refine takeD (i := 8) (d := some 201) (v := ?_) _ rfl rfl (by kernel_rfl) (by kernel_rfl) (by kernel_rfl) (fun _ _ _ h => h) (by rfl) ?_ ⟨(row_cell HP_v4.out.bx 0).1.trans rfl, (row_cell HP_v4.out.bx 1).1.trans rfl, (row_cell HP_v4.out.bx 2).1.trans rfl, (row_cell HP_v4.out.bx 3).1.trans rfl⟩ ?_
      rotate_left
      · (intro w hSw; (try dsimp only at hSw); go_simp) <;> with_reducible rfl
      try simp only [Act.put, List.setIfInBounds_toArray, List.set_cons_zero, List.set_cons_succ]
      refine takeD (i := 9) (d := some 202) (v := ?_) _ rfl rfl (by kernel_rfl) (by kernel_rfl) (by kernel_rfl) (fun _ _ _ h => h) (by rfl) ?_ ⟨(row_cell HP_v4.out.bx 0).1.trans rfl, (row_cell HP_v4.out.bx 1).1.trans rfl, (row_cell HP_v4.out.bx 2).1.trans rfl, (row_cell HP_v4.out.bx 3).1.trans rfl⟩ ?_
      rotate_left
      · (intro w hSw; (try dsimp only at hSw); go_simp) <;> with_reducible rfl
      try simp only [Act.put, List.setIfInBounds_toArray, List.set_cons_zero, List.set_cons_succ]
      refine takeD (i := 10) (d := some 8) (v := ?_) _ rfl rfl (by kernel_rfl) (by kernel_rfl) (by kernel_rfl) (fun _ _ _ h => h) (by rfl) ?_ ⟨(row_cell HP_v4.out.bx 0).1.trans rfl, (row_cell HP_v4.out.bx 1).1.trans rfl, (row_cell HP_v4.out.bx 2).1.trans rfl, (row_cell HP_v4.out.bx 3).1.trans rfl⟩ ?_
      rotate_left
      · (intro w hSw; (try dsimp only at hSw); go_simp) <;> with_reducible rfl
      try simp only [Act.put, List.setIfInBounds_toArray, List.set_cons_zero, List.set_cons_succ]
      refine wpAnyH_done (by kernel_rfl) ?_ _
      go_wp2_with fail
      go_ret
      exact ⟨rfl, HP_v4.out.be⟩
    have hjI : (i : Int) < (len : Int) := by omega
    have hcI : (i : Int) < 60 := by omega
    have g0 : decide ((i : Int) < (len : Int)) = true := by simp; omega
    have g3 : decide ((i : Int) < 60) = true := by simp; omega
    have HJ : Hid (i < len ∧ i < 60) := ⟨hlt, h60⟩
    obtain ⟨hl9, b, off, x, cs, hA2, hbl, hx, hra, hl8, hc⟩ := HA.out.at_ i hlt
    subst hA2
    obtain ⟨kd, tt, nn⟩ := x
    have hra : cs = [.int .i64 kd, .int .i64 tt, .int .i64 nn] := hra
    subst hra
    have HB : Hid (b < lo) := by have := HLO.out; unfold Hid; omega
    have x0 : vr.cell? ⟨b, off + i * 3, none⟩ = some (.int .i64 kd) := (HP.out.be.cell (by exact HB.out)).trans (hc 0 _ rfl)
    have x1 : vr.cell? ⟨b, off + i * 3 + 1, none⟩ = some (.int .i64 tt) := (HP.out.be.cell (by exact HB.out)).trans (hc 1 _ rfl)
    have x2 : vr.cell? ⟨b, off + i * 3 + 2, none⟩ = some (.int .i64 nn) := (HP.out.be.cell (by exact HB.out)).trans (hc 2 _ rfl)
    clear hc hx hlt h60 hi hi60 hl9 hl8
    obtain ⟨v0, hv0⟩ : ∃ W, vr.alloc (.cells #[.int .i64 kd, .int .i64 tt, .int .i64 nn] 34) = W := ⟨_, rfl⟩
    obtain ⟨Xb, hXb⟩ : ∃ b, vr.heap.size = b := ⟨_, rfl⟩
    have bv : Below vr.heap.size vr v0 := by rw [← hv0]; exact (Below.refl _ _).alloc (Nat.le_refl _) _
    have HX : Hid (v0.heap[Xb]? = some (.cells #[.int .i64 kd, .int .i64 tt, .int .i64 nn] 34 (0, 0))) := by rw [← hv0, ← hXb]; exact heap_alloc_new _ _
    have HP0 : Hid (PB lo Rb g w v0 s L lv) := HP.out.below bv
    have XD : Hid (Xb ≠ Rb ∧ Xb ≠ g ∧ lo ≤ Xb ∧ Xb < v0.heap.size) := ⟨by have := HP.out.blt; omega, by have := HP.out.sv.lt; omega, by have := HP.out.lo_le; omega, (Array.getElem?_eq_some_iff.1 HX.out).1⟩
    have HV0 := Lib.hid hv0
    have HXB := Lib.hid hXb
    clear hv0 hXb bv HP
    go_upto_region 11 with fail
    try simp only [HV0.out, HXB.out]
    clear x0 x1 x2 HV0 HXB
    obtain ⟨l, hl⟩ : ∃ x, leftV s tt = x := ⟨_, rfl⟩
    obtain ⟨l3, hl3⟩ : ∃ x, leftV s a3 = x := ⟨_, rfl⟩
    obtain ⟨nx, hnx⟩ : ∃ x, nextV s tt = x := ⟨_, rfl⟩
    have HL := Lib.hid (And.intro hl (And.intro hl3 hnx))
    clear hl hl3 hnx
    obtain ⟨HP_v0, HX_v0⟩ := And.intro HP0 HX
    clear HP0 HX
    go_cut [98] (fun v wx => v = .bool false ∧ PB lo Rb g w wx s L lv ∧ wx.heap[Xb]? = some (.cells #[.int .i64 kd, .int .i64 tt, .int .i64 nn] 34 (0, 0)))
    case first =>
      refine wp_region_held_drew (S := (fun w' => w'.cell? ⟨Xb, 1, none⟩ = some (.int .i64 tt) ∧ w'.cell? ⟨Rb, 0, none⟩ = some (.int .i64 s.size) ∧ w'.cell? ⟨Rb, 1, none⟩ = some (.int .i64 s.per) ∧ w'.cell? ⟨Rb, 2, none⟩ = some (.int .i64 s.frm) ∧ w'.cell? ⟨Rb, 3, none⟩ = some (lv))) (by kernel_rfl) ⟨(row_cell HX_v0.out 1).1.trans rfl, (row_cell HP_v0.out.bx 0).1.trans rfl, (row_cell HP_v0.out.bx 1).1.trans rfl, (row_cell HP_v0.out.bx 2).1.trans rfl, (row_cell HP_v0.out.bx 3).1.trans rfl⟩ (fun hHeld => ?_)
      obtain ⟨v1, hv1⟩ : ∃ W, v0.drew = W := ⟨_, rfl⟩
      have hb1 : Below v0.heap.size v0 v1 := by rw [← hv1]; exact (Below.refl _ _).drew
      have HP_v1 : Hid (PB lo Rb g w v1 s L lv) := HP_v0.out.below hb1
      have HX_v1 : Hid (v1.heap[Xb]? = some (.cells #[.int .i64 kd, .int .i64 tt, .int .i64 nn] 34 (0, 0))) := (hb1.block _ (Array.getElem?_eq_some_iff.1 HX_v0.out).1).trans HX_v0.out
      clear hb1
      simp only [hv1]
      clear hv1
      have hh : v1.cell? ⟨Xb, 1, none⟩ = some (.int .i64 tt) ∧ v1.cell? ⟨Rb, 0, none⟩ = some (.int .i64 s.size) ∧ v1.cell? ⟨Rb, 1, none⟩ = some (.int .i64 s.per) ∧ v1.cell? ⟨Rb, 2, none⟩ = some (.int .i64 s.frm) ∧ v1.cell? ⟨Rb, 3, none⟩ = some (lv) := (⟨(row_cell HX_v1.out 1).1.trans rfl, (row_cell HP_v1.out.bx 0).1.trans rfl, (row_cell HP_v1.out.bx 1).1.trans rfl, (row_cell HP_v1.out.bx 2).1.trans rfl, (row_cell HP_v1.out.bx 3).1.trans rfl⟩)
      refine takeD (i := 0) (d := some 70) (v := ?_) _ rfl rfl (by kernel_rfl) (by kernel_rfl) (by kernel_rfl) (fun _ _ _ h => h) (by rfl) ?_ hh ?_
      rotate_left
      · (intro w hSw; (try dsimp only at hSw); go_simp) <;> with_reducible rfl
      try simp only [Act.put, List.setIfInBounds_toArray, List.set_cons_zero, List.set_cons_succ]
      refine takeD (i := 1) (d := some 71) (v := ?_) _ rfl rfl (by kernel_rfl) (by kernel_rfl) (by kernel_rfl) (fun _ _ _ h => h) (by rfl) ?_ hh ?_
      rotate_left
      · (intro w hSw; (try dsimp only at hSw); go_simp) <;> with_reducible rfl
      try simp only [Act.put, List.setIfInBounds_toArray, List.set_cons_zero, List.set_cons_succ]
      refine takeD (i := 2) (d := some 72) (v := ?_) _ rfl rfl (by kernel_rfl) (by kernel_rfl) (by kernel_rfl) (fun _ _ _ h => h) (by rfl) ?_ hh ?_
      rotate_left
      · (intro w hSw; (try dsimp only at hSw); go_simp) <;> with_reducible rfl
      try simp only [Act.put, List.setIfInBounds_toArray, List.set_cons_zero, List.set_cons_succ]
      refine takeD (i := 4) (d := some 74) (v := ?_) _ rfl rfl (by kernel_rfl) (by kernel_rfl) (by kernel_rfl) (fun _ _ _ h => h) (by rfl) ?_ hh ?_
      rotate_left
      · (intro w hSw; (try dsimp only at hSw); go_simp) <;> with_reducible rfl
      try simp only [Act.put, List.setIfInBounds_toArray, List.set_cons_zero, List.set_cons_succ]
      refine takeD (i := 5) (d := some 75) (v := ?_) _ rfl rfl (by kernel_rfl) (by kernel_rfl) (by kernel_rfl) (fun _ _ _ h => h) (by rfl) ?_ hh ?_
      rotate_left
      · (intro w hSw; (try dsimp only at hSw); go_simp) <;> with_reducible rfl
      try simp only [Act.put, List.setIfInBounds_toArray, List.set_cons_zero, List.set_cons_succ]
      refine takeD (i := 6) (d := some 76) (v := ?_) _ rfl rfl (by kernel_rfl) (by kernel_rfl) (by kernel_rfl) (fun _ _ _ h => h) (by rfl) ?_ hh ?_
      rotate_left
      · (intro w hSw; (try dsimp only at hSw); go_simp) <;> with_reducible rfl
      try simp only [Act.put, List.setIfInBounds_toArray, List.set_cons_zero, List.set_cons_succ]
      refine wpAnyH_ready (rs := [3]) (by kernel_rfl) (by simp) ?_
      refine AllReadyH.cons rfl (fun K0 hK => ?_) AllReadyH.nil
      try go_simp
      go_at_call 12
      refine (left_any g s tt v1 HP_v1.out.sv).mono ?_
      rintro e v2 ⟨rfl, hq⟩
      rw [HL.out.1]
      have hb : Below v1.heap.size v1 v2 := by obtain ⟨m, rfl⟩ := hq; exact quiet_below rfl
      clear hq
      have HP_v2 : Hid (PB lo Rb g w v2 s L lv) := HP_v1.out.below hb
      have HX_v2 : Hid (v2.heap[Xb]? = some (.cells #[.int .i64 kd, .int .i64 tt, .int .i64 nn] 34 (0, 0))) := (hb.block _ (Array.getElem?_eq_some_iff.1 HX_v1.out).1).trans HX_v1.out
      clear hb
      try go_wp2_with fail
      refine hK.out _ _ ⟨(row_cell HX_v2.out 1).1.trans rfl, (row_cell HP_v2.out.bx 0).1.trans rfl, (row_cell HP_v2.out.bx 1).1.trans rfl, (row_cell HP_v2.out.bx 2).1.trans rfl, (row_cell HP_v2.out.bx 3).1.trans rfl⟩ (fun hHeld => ?_)
      clear hK K0
      try simp only [Act.put, List.setIfInBounds_toArray, List.set_cons_zero, List.set_cons_succ]
      refine wpAnyH_ready (rs := [7]) (by kernel_rfl) (by simp) ?_
      refine AllReadyH.cons rfl (fun K0 hK => ?_) AllReadyH.nil
      try go_simp
      go_at_call 13
      refine (rleft_any s.size s.per s.frm s.last s.used tt lv L _ v2 HP_v2.out.sv.ok HP_v2.out.rel HP_v2.out.lst (by have := HLL.out; have := HI.out.2; omega)).mono ?_
      rintro e v3 ⟨rfl, hb⟩
      rw [show leftV ⟨s.size, s.per, s.frm, s.last, s.used⟩ tt = _ from HL.out.1]
      have HP_v3 : Hid (PB lo Rb g w v3 s L lv) := HP_v2.out.below hb
      have HX_v3 : Hid (v3.heap[Xb]? = some (.cells #[.int .i64 kd, .int .i64 tt, .int .i64 nn] 34 (0, 0))) := (hb.block _ (Array.getElem?_eq_some_iff.1 HX_v2.out).1).trans HX_v2.out
      clear hb
      try go_wp2_with fail
      refine hK.out _ _ ⟨(row_cell HX_v3.out 1).1.trans rfl, (row_cell HP_v3.out.bx 0).1.trans rfl, (row_cell HP_v3.out.bx 1).1.trans rfl, (row_cell HP_v3.out.bx 2).1.trans rfl, (row_cell HP_v3.out.bx 3).1.trans rfl⟩ (fun hHeld => ?_)
      clear hK K0
      try simp only [Act.put, List.setIfInBounds_toArray, List.set_cons_zero, List.set_cons_succ]
      refine takeD (i := 8) (d := some 78) (v := ?_) _ rfl rfl (by kernel_rfl) (by kernel_rfl) (by kernel_rfl) (fun _ _ _ h => h) (by rfl) ?_ ⟨(row_cell HX_v3.out 1).1.trans rfl, (row_cell HP_v3.out.bx 0).1.trans rfl, (row_cell HP_v3.out.bx 1).1.trans rfl, (row_cell HP_v3.out.bx 2).1.trans rfl, (row_cell HP_v3.out.bx 3).1.trans rfl⟩ ?_
      rotate_left
      · (intro w hSw; (try dsimp only at hSw); go_simp) <;> with_reducible rfl
      try simp only [Act.put, List.setIfInBounds_toArray, List.set_cons_zero, List.set_cons_succ]
      refine takeD (i := 9) (d := some 79) (v := ?_) _ rfl rfl (by kernel_rfl) (by kernel_rfl) (by kernel_rfl) (fun _ _ _ h => h) (by rfl) ?_ ⟨(row_cell HX_v3.out 1).1.trans rfl, (row_cell HP_v3.out.bx 0).1.trans rfl, (row_cell HP_v3.out.bx 1).1.trans rfl, (row_cell HP_v3.out.bx 2).1.trans rfl, (row_cell HP_v3.out.bx 3).1.trans rfl⟩ ?_
      rotate_left
      · (intro w hSw; (try dsimp only at hSw); go_simp) <;> with_reducible rfl
      try simp only [Act.put, List.setIfInBounds_toArray, List.set_cons_zero, List.set_cons_succ]
      refine takeD (i := 10) (d := some 80) (v := ?_) _ rfl rfl (by kernel_rfl) (by kernel_rfl) (by kernel_rfl) (fun _ _ _ h => h) (by rfl) ?_ ⟨(row_cell HX_v3.out 1).1.trans rfl, (row_cell HP_v3.out.bx 0).1.trans rfl, (row_cell HP_v3.out.bx 1).1.trans rfl, (row_cell HP_v3.out.bx 2).1.trans rfl, (row_cell HP_v3.out.bx 3).1.trans rfl⟩ ?_
      rotate_left
      · (intro w hSw; (try dsimp only at hSw); go_simp) <;> with_reducible rfl
      try simp only [Act.put, List.setIfInBounds_toArray, List.set_cons_zero, List.set_cons_succ]
      refine takeD (i := 11) (d := some 81) (v := ?_) _ rfl rfl (by kernel_rfl) (by kernel_rfl) (by kernel_rfl) (fun _ _ _ h => h) (by rfl) ?_ ⟨(row_cell HX_v3.out 1).1.trans rfl, (row_cell HP_v3.out.bx 0).1.trans rfl, (row_cell HP_v3.out.bx 1).1.trans rfl, (row_cell HP_v3.out.bx 2).1.trans rfl, (row_cell HP_v3.out.bx 3).1.trans rfl⟩ ?_
      rotate_left
      · (intro w hSw; (try dsimp only at hSw); go_simp) <;> with_reducible rfl
      try simp only [Act.put, List.setIfInBounds_toArray, List.set_cons_zero, List.set_cons_succ]
      refine takeD (i := 12) (d := some 82) (v := ?_) _ rfl rfl (by kernel_rfl) (by kernel_rfl) (by kernel_rfl) (fun _ _ _ h => h) (by rfl) ?_ ⟨(row_cell HX_v3.out 1).1.trans rfl, (row_cell HP_v3.out.bx 0).1.trans rfl, (row_cell HP_v3.out.bx 1).1.trans rfl, (row_cell HP_v3.out.bx 2).1.trans rfl, (row_cell HP_v3.out.bx 3).1.trans rfl⟩ ?_
      rotate_left
      · (intro w hSw; (try dsimp only at hSw); go_simp) <;> with_reducible rfl
      try simp only [Act.put, List.setIfInBounds_toArray, List.set_cons_zero, List.set_cons_succ]
      refine takeD (i := 14) (d := some 84) (v := ?_) _ rfl rfl (by kernel_rfl) (by kernel_rfl) (by kernel_rfl) (fun _ _ _ h => h) (by rfl) ?_ ⟨(row_cell HX_v3.out 1).1.trans rfl, (row_cell HP_v3.out.bx 0).1.trans rfl, (row_cell HP_v3.out.bx 1).1.trans rfl, (row_cell HP_v3.out.bx 2).1.trans rfl, (row_cell HP_v3.out.bx 3).1.trans rfl⟩ ?_
      rotate_left
      · (intro w hSw; (try dsimp only at hSw); go_simp) <;> with_reducible rfl
      try simp only [Act.put, List.setIfInBounds_toArray, List.set_cons_zero, List.set_cons_succ]
      refine takeD (i := 15) (d := some 85) (v := ?_) _ rfl rfl (by kernel_rfl) (by kernel_rfl) (by kernel_rfl) (fun _ _ _ h => h) (by rfl) ?_ ⟨(row_cell HX_v3.out 1).1.trans rfl, (row_cell HP_v3.out.bx 0).1.trans rfl, (row_cell HP_v3.out.bx 1).1.trans rfl, (row_cell HP_v3.out.bx 2).1.trans rfl, (row_cell HP_v3.out.bx 3).1.trans rfl⟩ ?_
      rotate_left
      · (intro w hSw; (try dsimp only at hSw); go_simp) <;> with_reducible rfl
      try simp only [Act.put, List.setIfInBounds_toArray, List.set_cons_zero, List.set_cons_succ]
      refine takeD (i := 16) (d := some 86) (v := ?_) _ rfl rfl (by kernel_rfl) (by kernel_rfl) (by kernel_rfl) (fun _ _ _ h => h) (by rfl) ?_ ⟨(row_cell HX_v3.out 1).1.trans rfl, (row_cell HP_v3.out.bx 0).1.trans rfl, (row_cell HP_v3.out.bx 1).1.trans rfl, (row_cell HP_v3.out.bx 2).1.trans rfl, (row_cell HP_v3.out.bx 3).1.trans rfl⟩ ?_
      rotate_left
      · (intro w hSw; (try dsimp only at hSw); go_simp) <;> with_reducible rfl
      try simp only [Act.put, List.setIfInBounds_toArray, List.set_cons_zero, List.set_cons_succ]
      refine wpAnyH_ready (rs := [13]) (by kernel_rfl) (by simp) ?_
      refine AllReadyH.cons rfl (fun K0 hK => ?_) AllReadyH.nil
      try go_simp
      go_at_call 14
      refine (next_any g s tt v3 HP_v3.out.sv).mono ?_
      rintro e v4 ⟨rfl, hq⟩
      rw [HL.out.2.2]
      have hb : Below v3.heap.size v3 v4 := by obtain ⟨m, rfl⟩ := hq; exact quiet_below rfl
      clear hq
      have HP_v4 : Hid (PB lo Rb g w v4 s L lv) := HP_v3.out.below hb
      have HX_v4 : Hid (v4.heap[Xb]? = some (.cells #[.int .i64 kd, .int .i64 tt, .int .i64 nn] 34 (0, 0))) := (hb.block _ (Array.getElem?_eq_some_iff.1 HX_v3.out).1).trans HX_v3.out
      clear hb
      try go_wp2_with fail
      refine hK.out _ _ ⟨(row_cell HX_v4.out 1).1.trans rfl, (row_cell HP_v4.out.bx 0).1.trans rfl, (row_cell HP_v4.out.bx 1).1.trans rfl, (row_cell HP_v4.out.bx 2).1.trans rfl, (row_cell HP_v4.out.bx 3).1.trans rfl⟩ (fun hHeld => ?_)
      clear hK K0
      try simp only [Act.put, List.setIfInBounds_toArray, List.set_cons_zero, List.set_cons_succ]
      refine wpAnyH_ready (rs := [17]) (by kernel_rfl) (by simp) ?_
      refine AllReadyH.cons rfl (fun K0 hK => ?_) AllReadyH.nil
      try go_simp
      go_at_call 15
      refine (rnext_any s.size s.per s.frm s.last s.used tt lv v4 HP_v4.out.sv.ok).mono ?_
      rintro e v5 ⟨rfl, hb⟩
      rw [show nextV ⟨s.size, s.per, s.frm, s.last, s.used⟩ tt = _ from HL.out.2.2]
      have HP_v5 : Hid (PB lo Rb g w v5 s L lv) := HP_v4.out.below hb
      have HX_v5 : Hid (v5.heap[Xb]? = some (.cells #[.int .i64 kd, .int .i64 tt, .int .i64 nn] 34 (0, 0))) := (hb.block _ (Array.getElem?_eq_some_iff.1 HX_v4.out).1).trans HX_v4.out
      clear hb
      try go_wp2_with fail
      refine hK.out _ _ ⟨(row_cell HX_v5.out 1).1.trans rfl, (row_cell HP_v5.out.bx 0).1.trans rfl, (row_cell HP_v5.out.bx 1).1.trans rfl, (row_cell HP_v5.out.bx 2).1.trans rfl, (row_cell HP_v5.out.bx 3).1.trans rfl⟩ (fun hHeld => ?_)
      clear hK K0
      try simp only [Act.put, List.setIfInBounds_toArray, List.set_cons_zero, List.set_cons_succ]
      refine takeD (i := 18) (d := some 88) (v := ?_) _ rfl rfl (by kernel_rfl) (by kernel_rfl) (by kernel_rfl) (fun _ _ _ h => h) (by rfl) ?_ ⟨(row_cell HX_v5.out 1).1.trans rfl, (row_cell HP_v5.out.bx 0).1.trans rfl, (row_cell HP_v5.out.bx 1).1.trans rfl, (row_cell HP_v5.out.bx 2).1.trans rfl, (row_cell HP_v5.out.bx 3).1.trans rfl⟩ ?_
      rotate_left
      · (intro w hSw; (try dsimp only at hSw); go_simp) <;> with_reducible rfl
      try simp only [Act.put, List.setIfInBounds_toArray, List.set_cons_zero, List.set_cons_succ]
      refine takeD (i := 19) (d := some 89) (v := ?_) _ rfl rfl (by kernel_rfl) (by kernel_rfl) (by kernel_rfl) (fun _ _ _ h => h) (by rfl) ?_ ⟨(row_cell HX_v5.out 1).1.trans rfl, (row_cell HP_v5.out.bx 0).1.trans rfl, (row_cell HP_v5.out.bx 1).1.trans rfl, (row_cell HP_v5.out.bx 2).1.trans rfl, (row_cell HP_v5.out.bx 3).1.trans rfl⟩ ?_
      rotate_left
      · (intro w hSw; (try dsimp only at hSw); go_simp) <;> with_reducible rfl
      try simp only [Act.put, List.setIfInBounds_toArray, List.set_cons_zero, List.set_cons_succ]
      refine takeD (i := 20) (d := some 90) (v := ?_) _ rfl rfl (by kernel_rfl) (by kernel_rfl) (by kernel_rfl) (fun _ _ _ h => h) (by rfl) ?_ ⟨(row_cell HX_v5.out 1).1.trans rfl, (row_cell HP_v5.out.bx 0).1.trans rfl, (row_cell HP_v5.out.bx 1).1.trans rfl, (row_cell HP_v5.out.bx 2).1.trans rfl, (row_cell HP_v5.out.bx 3).1.trans rfl⟩ ?_
      rotate_left
      · (intro w hSw; (try dsimp only at hSw); go_simp) <;> with_reducible rfl
      try simp only [Act.put, List.setIfInBounds_toArray, List.set_cons_zero, List.set_cons_succ]
      refine takeD (i := 21) (d := some 91) (v := ?_) _ rfl rfl (by kernel_rfl) (by kernel_rfl) (by kernel_rfl) (fun _ _ _ h => h) (by rfl) ?_ ⟨(row_cell HX_v5.out 1).1.trans rfl, (row_cell HP_v5.out.bx 0).1.trans rfl, (row_cell HP_v5.out.bx 1).1.trans rfl, (row_cell HP_v5.out.bx 2).1.trans rfl, (row_cell HP_v5.out.bx 3).1.trans rfl⟩ ?_
      rotate_left
      · (intro w hSw; (try dsimp only at hSw); go_simp) <;> with_reducible rfl
      try simp only [Act.put, List.setIfInBounds_toArray, List.set_cons_zero, List.set_cons_succ]
      refine takeD (i := 22) (d := some 92) (v := ?_) _ rfl rfl (by kernel_rfl) (by kernel_rfl) (by kernel_rfl) (fun _ _ _ h => h) (by rfl) ?_ ⟨(row_cell HX_v5.out 1).1.trans rfl, (row_cell HP_v5.out.bx 0).1.trans rfl, (row_cell HP_v5.out.bx 1).1.trans rfl, (row_cell HP_v5.out.bx 2).1.trans rfl, (row_cell HP_v5.out.bx 3).1.trans rfl⟩ ?_
      rotate_left
      · (intro w hSw; (try dsimp only at hSw); go_simp) <;> with_reducible rfl
      try simp only [Act.put, List.setIfInBounds_toArray, List.set_cons_zero, List.set_cons_succ]
      refine takeD (i := 24) (d := some 94) (v := ?_) _ rfl rfl (by kernel_rfl) (by kernel_rfl) (by kernel_rfl) (fun _ _ _ h => h) (by rfl) ?_ ⟨(row_cell HX_v5.out 1).1.trans rfl, (row_cell HP_v5.out.bx 0).1.trans rfl, (row_cell HP_v5.out.bx 1).1.trans rfl, (row_cell HP_v5.out.bx 2).1.trans rfl, (row_cell HP_v5.out.bx 3).1.trans rfl⟩ ?_
      rotate_left
      · (intro w hSw; (try dsimp only at hSw); go_simp) <;> with_reducible rfl
      try simp only [Act.put, List.setIfInBounds_toArray, List.set_cons_zero, List.set_cons_succ]
      refine takeD (i := 25) (d := some 95) (v := ?_) _ rfl rfl (by kernel_rfl) (by kernel_rfl) (by kernel_rfl) (fun _ _ _ h => h) (by rfl) ?_ ⟨(row_cell HX_v5.out 1).1.trans rfl, (row_cell HP_v5.out.bx 0).1.trans rfl, (row_cell HP_v5.out.bx 1).1.trans rfl, (row_cell HP_v5.out.bx 2).1.trans rfl, (row_cell HP_v5.out.bx 3).1.trans rfl⟩ ?_
      rotate_left
      · (intro w hSw; (try dsimp only at hSw); go_simp) <;> with_reducible rfl
      try simp only [Act.put, List.setIfInBounds_toArray, List.set_cons_zero, List.set_cons_succ]
      refine wpAnyH_ready (rs := [23]) (by kernel_rfl) (by simp) ?_
      refine AllReadyH.cons rfl (fun K0 hK => ?_) AllReadyH.nil
      try go_simp
      go_at_call 12
      refine (left_any g s a3 v5 HP_v5.out.sv).mono ?_
      rintro e v6 ⟨rfl, hq⟩
      rw [HL.out.2.1]
      have hb : Below v5.heap.size v5 v6 := by obtain ⟨m, rfl⟩ := hq; exact quiet_below rfl
      clear hq
      have HP_v6 : Hid (PB lo Rb g w v6 s L lv) := HP_v5.out.below hb
      have HX_v6 : Hid (v6.heap[Xb]? = some (.cells #[.int .i64 kd, .int .i64 tt, .int .i64 nn] 34 (0, 0))) := (hb.block _ (Array.getElem?_eq_some_iff.1 HX_v5.out).1).trans HX_v5.out
      clear hb
      try go_wp2_with fail
      refine hK.out _ _ ⟨(row_cell HX_v6.out 1).1.trans rfl, (row_cell HP_v6.out.bx 0).1.trans rfl, (row_cell HP_v6.out.bx 1).1.trans rfl, (row_cell HP_v6.out.bx 2).1.trans rfl, (row_cell HP_v6.out.bx 3).1.trans rfl⟩ (fun hHeld => ?_)
      clear hK K0
      try simp only [Act.put, List.setIfInBounds_toArray, List.set_cons_zero, List.set_cons_succ]
      refine wpAnyH_ready (rs := [26]) (by kernel_rfl) (by simp) ?_
      refine AllReadyH.cons rfl (fun K0 hK => ?_) AllReadyH.nil
      try go_simp
      go_at_call 13
      refine (rleft_any s.size s.per s.frm s.last s.used a3 lv L _ v6 HP_v6.out.sv.ok HP_v6.out.rel HP_v6.out.lst (by have := HLL.out; have := HI.out.2; omega)).mono ?_
      rintro e v7 ⟨rfl, hb⟩
      rw [show leftV ⟨s.size, s.per, s.frm, s.last, s.used⟩ a3 = _ from HL.out.2.1]
      have HP_v7 : Hid (PB lo Rb g w v7 s L lv) := HP_v6.out.below hb
      have HX_v7 : Hid (v7.heap[Xb]? = some (.cells #[.int .i64 kd, .int .i64 tt, .int .i64 nn] 34 (0, 0))) := (hb.block _ (Array.getElem?_eq_some_iff.1 HX_v6.out).1).trans HX_v6.out
      clear hb
      try go_wp2_with fail
      refine hK.out _ _ ⟨(row_cell HX_v7.out 1).1.trans rfl, (row_cell HP_v7.out.bx 0).1.trans rfl, (row_cell HP_v7.out.bx 1).1.trans rfl, (row_cell HP_v7.out.bx 2).1.trans rfl, (row_cell HP_v7.out.bx 3).1.trans rfl⟩ (fun hHeld => ?_)
      clear hK K0
      try simp only [Act.put, List.setIfInBounds_toArray, List.set_cons_zero, List.set_cons_succ]
      refine takeD (i := 27) (d := some 97) (v := ?_) _ rfl rfl (by kernel_rfl) (by kernel_rfl) (by kernel_rfl) (fun _ _ _ h => h) (by rfl) ?_ ⟨(row_cell HX_v7.out 1).1.trans rfl, (row_cell HP_v7.out.bx 0).1.trans rfl, (row_cell HP_v7.out.bx 1).1.trans rfl, (row_cell HP_v7.out.bx 2).1.trans rfl, (row_cell HP_v7.out.bx 3).1.trans rfl⟩ ?_
      rotate_left
      · (intro w hSw; (try dsimp only at hSw); go_simp) <;> with_reducible rfl
      try simp only [Act.put, List.setIfInBounds_toArray, List.set_cons_zero, List.set_cons_succ]
      refine takeD (i := 28) (d := some 98) (v := ?_) _ rfl rfl (by kernel_rfl) (by kernel_rfl) (by kernel_rfl) (fun _ _ _ h => h) (by rfl) ?_ ⟨(row_cell HX_v7.out 1).1.trans rfl, (row_cell HP_v7.out.bx 0).1.trans rfl, (row_cell HP_v7.out.bx 1).1.trans rfl, (row_cell HP_v7.out.bx 2).1.trans rfl, (row_cell HP_v7.out.bx 3).1.trans rfl⟩ ?_
      rotate_left
      · (intro w hSw; (try dsimp only at hSw); go_simp) <;> with_reducible rfl
      try simp only [Act.put, List.setIfInBounds_toArray, List.set_cons_zero, List.set_cons_succ]
      refine wpAnyH_done (by kernel_rfl) ?_ _
      clear hh HL HX_v0 HP_v0 HP_v1 HX_v1 HP_v2 HX_v2 HP_v3 HX_v3 HP_v4 HX_v4 HP_v5 HX_v5 HP_v6 HX_v6
      go_wp2_with fail
      go_meet
      exact ⟨rfl, HP_v7.out, HX_v7.out⟩
    case rest =>
      obtain ⟨V, hV⟩ : ∃ w', w' = wc := ⟨_, rfl⟩
      subst hV
      obtain ⟨rfl, hp, hx⟩ := hcut
      have HP_V := Lib.hid hp
      have HX_V := Lib.hid hx
      have XR : Hid (Xb ≠ Rb ∧ Xb ≠ g) := ⟨XD.out.1, XD.out.2.1⟩
      clear hp hx HP_v0 HX_v0 HL XD
      have x0 : V.cell? ⟨Xb, 0, none⟩ = some (.int .i64 kd) := (row_cell HX_V.out 0).1.trans rfl
      by_cases h0 : kd = 0
      · as_aux_lemma =>
          have k0 : (kd == 0) = true := by simp [h0]
          clear h0
          obtain ⟨c, hc⟩ : ∃ c, chN s tt nn = c := ⟨_, rfl⟩
          obtain ⟨ov, hov⟩ : ∃ o, decide (c < nn) = o := ⟨_, rfl⟩
          obtain ⟨s2, hs2⟩ : ∃ x, chS s tt nn = x := ⟨_, rfl⟩
          have hcd := ch_dec s tt nn HP_V.out.sv.ok
          rw [hc, hov] at hcd
          have hkp := ch_keep s tt nn
          rw [hs2] at hkp
          have HK := Lib.hid hkp
          have CG := fun W h => charge_any g s tt nn W h
          simp only [hc, hcd, hs2] at CG
          have CR := rcharge_any s.size s.per s.frm s.last s.used tt nn lv L _ V HP_V.out.sv.ok HP_V.out.rel HP_V.out.lst (by have := HLL.out; have := HI.out.2; omega)
          rw [show chN ⟨s.size, s.per, s.frm, s.last, s.used⟩ tt nn = c from hc, hov, show chS ⟨s.size, s.per, s.frm, s.last, s.used⟩ tt nn = s2 from hs2] at CR
          have HCG := Lib.hid CG
          have HCR := Lib.hid CR
          clear CG CR hc hov hs2 hcd hkp
          have x1 : V.cell? ⟨Xb, 1, none⟩ = some (.int .i64 tt) := (row_cell HX_V.out 1).1.trans rfl
          have x2 : V.cell? ⟨Xb, 2, none⟩ = some (.int .i64 nn) := (row_cell HX_V.out 2).1.trans rfl
          have r0 : V.cell? ⟨Rb, 0, none⟩ = some (.int .i64 s.size) := (row_cell HP_V.out.bx 0).1.trans rfl
          have r1 : V.cell? ⟨Rb, 1, none⟩ = some (.int .i64 s.per) := (row_cell HP_V.out.bx 1).1.trans rfl
          have r2 : V.cell? ⟨Rb, 2, none⟩ = some (.int .i64 s.frm) := (row_cell HP_V.out.bx 2).1.trans rfl
          have r3 : V.cell? ⟨Rb, 3, none⟩ = some (lv) := (row_cell HP_V.out.bx 3).1.trans rfl
          go_wp2_with fail
          refine HCR.out.mono ?_
          rintro e w1 ⟨lv2, L2, rfl, rel2, lst2, len2, hb⟩
          obtain ⟨A2, c2, hlv, _⟩ := lst2.ex
          obtain ⟨n2, hn2⟩ : ∃ n, L2.length = n := ⟨_, rfl⟩
          rw [hn2] at hlv
          subst hlv
          clear hn2
          clear x0 x1 x2 r0 r1 r2 r3 HCR
          have HP_w1 : Hid (PB lo Rb g w w1 s L lv) := HP_V.out.below hb
          have HX_w1 : Hid (w1.heap[Xb]? = some (.cells #[.int .i64 kd, .int .i64 tt, .int .i64 nn] 34 (0, 0))) := (hb.block _ (Array.getElem?_eq_some_iff.1 HX_V.out).1).trans HX_V.out
          have REL2 := Lib.hid rel2
          have LEN2 := Lib.hid len2
          have hl2 : LV w1 (fun b => b ≠ Rb ∧ b ≠ g) (.slice A2 n2 c2) L2 := lst2.imp (fun b hb hp => by rcases hp with hp | hp; exact hp; have := HP_V.out.blt; have := HP_V.out.sv.lt; exact ⟨by omega, by omega⟩)
          obtain ⟨w2, hw2⟩ : ∃ W, w1.alloc (.cells #[.int .i64 s.size, .int .i64 s.per, .int .i64 s.frm, .slice A2 n2 c2] 29) = W := ⟨_, rfl⟩
          obtain ⟨Nb, hNb⟩ : ∃ b, w1.heap.size = b := ⟨_, rfl⟩
          have hb2 : Below w1.heap.size w1 w2 := by rw [← hw2]; exact (Below.refl _ _).alloc (Nat.le_refl _) _
          have HN2 : Hid (w2.heap[Nb]? = some (.cells #[.int .i64 s.size, .int .i64 s.per, .int .i64 s.frm, .slice A2 n2 c2] 29 (0, 0))) := by rw [← hw2, ← hNb]; exact heap_alloc_new _ _
          have HP_w2 : Hid (PB lo Rb g w w2 s L lv) := HP_w1.out.below hb2
          have HX_w2 : Hid (w2.heap[Xb]? = some (.cells #[.int .i64 kd, .int .i64 tt, .int .i64 nn] 34 (0, 0))) := (hb2.block _ (Array.getElem?_eq_some_iff.1 HX_w1.out).1).trans HX_w1.out
          have HL2 : Hid (LV w2 (fun b => b ≠ Rb ∧ b ≠ g) (.slice A2 n2 c2) L2) := hl2.below hb2
          have NG : Hid (Nb ≠ g ∧ Nb ≠ Rb) := ⟨by have := HP_w1.out.sv.lt; omega, by have := HP_w1.out.blt; omega⟩
          have HW2 := Lib.hid hw2
          have HNB := Lib.hid hNb
          clear hw2 hNb hb hb2 rel2 lst2 len2 hl2
          go_upto_region 16 with fail
          try simp only [HW2.out, HNB.out]
          clear HW2 HNB HP_V HX_V HP_w1 HX_w1
          have x1 : w2.cell? ⟨Xb, 1, none⟩ = some (.int .i64 tt) := (row_cell HX_w2.out 1).1.trans rfl
          have x2 : w2.cell? ⟨Xb, 2, none⟩ = some (.int .i64 nn) := (row_cell HX_w2.out 2).1.trans rfl
          go_wp2_with fail
          refine (HCG.out w2 HP_w2.out.sv).mono ?_
          rintro e w3 ⟨rfl, q3, f3⟩
          clear x1 x2 HCG
          have HQ3 := Lib.hid q3
          have HF3 := Lib.hid f3
          have HRB_ : Hid (w3.heap[Rb]? = some (.cells #[.int .i64 s.size, .int .i64 s.per, .int .i64 s.frm, lv] 29 (0, 0))) := (f3.block _ HP_w2.out.blt (fun e => HP_w2.out.ne e.symm)).trans HP_w2.out.bx
          have HN3 : Hid (w3.heap[Nb]? = some (.cells #[.int .i64 s.size, .int .i64 s.per, .int .i64 s.frm, .slice A2 n2 c2] 29 (0, 0))) := (f3.block _ (Array.getElem?_eq_some_iff.1 HN2.out).1 NG.out.1).trans HN2.out
          clear q3 f3
          have r0 : w3.cell? ⟨Rb, 0, none⟩ = some (.int .i64 s.size) := by rw [(row_cell HRB_.out 0).1]; rfl
          have rz0 : w3.frozen? ⟨Rb, 0, none⟩ = false := (row_cell HRB_.out 0).2
          have r1 : w3.cell? ⟨Rb, 1, none⟩ = some (.int .i64 s.per) := by rw [(row_cell HRB_.out 1).1]; rfl
          have rz1 : w3.frozen? ⟨Rb, 1, none⟩ = false := (row_cell HRB_.out 1).2
          have r2 : w3.cell? ⟨Rb, 2, none⟩ = some (.int .i64 s.frm) := by rw [(row_cell HRB_.out 2).1]; rfl
          have rz2 : w3.frozen? ⟨Rb, 2, none⟩ = false := (row_cell HRB_.out 2).2
          have r3 : w3.cell? ⟨Rb, 3, none⟩ = some (lv) := by rw [(row_cell HRB_.out 3).1]; rfl
          have rz3 : w3.frozen? ⟨Rb, 3, none⟩ = false := (row_cell HRB_.out 3).2
          have m0 : w3.cell? ⟨Nb, 0, none⟩ = some (.int .i64 s.size) := by rw [(row_cell HN3.out 0).1]; rfl
          have m1 : w3.cell? ⟨Nb, 1, none⟩ = some (.int .i64 s.per) := by rw [(row_cell HN3.out 1).1]; rfl
          have m2 : w3.cell? ⟨Nb, 2, none⟩ = some (.int .i64 s.frm) := by rw [(row_cell HN3.out 2).1]; rfl
          have m3 : w3.cell? ⟨Nb, 3, none⟩ = some (.slice A2 n2 c2) := by rw [(row_cell HN3.out 3).1]; rfl
          go_upto_region 18 with fail
          obtain ⟨w4, hw4⟩ : ∃ W, ((((w3).setCell ⟨Rb, 0, none⟩ (.int .i64 s.size)).setCell ⟨Rb, 1, none⟩ (.int .i64 s.per)).setCell ⟨Rb, 2, none⟩ (.int .i64 s.frm)).setCell ⟨Rb, 3, none⟩ (.slice A2 n2 c2) = W := ⟨_, rfl⟩
          rw [hw4]
          have ff : Fo (fun b => b = Rb) w3 w4 := by rw [← hw4]; exact ((((Fo.refl (fun b => b = Rb) w3).setCell (.inl rfl) 0 _).setCell (.inl rfl) 1 _).setCell (.inl rfl) 2 _).setCell (.inl rfl) 3 _
          have fb : w4.heap[Rb]? = some (.cells #[.int .i64 s.size, .int .i64 s.per, .int .i64 s.frm, .slice A2 n2 c2] 29 (0, 0)) := by rw [← hw4]; exact set_at (set_at (set_at (set_at HRB_.out 0 _) 1 _) 2 _) 3 _
          have HPE : Hid (PB lo Rb g w w4 s2 L2 (.slice A2 n2 c2)) := ⟨HQ3.out.fo ff HP_w2.out.ne, REL2.out, (HL2.out.fo HF3.out (fun b hb e => hb.2 e)).fo ff (fun b hb e => hb.1 e), by rw [HK.out.1, HK.out.2.1, HK.out.2.2]; exact fb, HP_w2.out.ne, HP_w2.out.ll, (HP_w2.out.be.trans (HF3.out.below (fun b hb => by rw [hb]; exact HP_w2.out.ll.2) HP_w2.out.lo_le)).trans (ff.below (fun b hb => by rw [hb]; exact HP_w2.out.ll.1) (by have := HF3.out.size; have := HP_w2.out.lo_le; omega))⟩
          clear ff fb hw4 r0 r1 r2 r3 rz0 rz1 rz2 rz3 m0 m1 m2 m3
          go_wp2_with fail
          go_roundw
          case rel =>
            have Q : PyR lo Rb len w (.pointer (some ⟨g, 0, none⟩)) (.int .i64 ((i : Int) + 1)) _ := ⟨⟨i + 1, g, s2, L2, (.slice A2 n2 c2), HJ.out.1, HJ.out.2, by have := HLL.out; have := LEN2.out; omega, rfl, by go_num, HPE.out⟩⟩
            first | exact Q | ((repeat apply Exists.intro); exact ⟨Q, rfl⟩)
          case measure => have := HJ.out; simp [intOf]; omega
      by_cases h2 : kd = 2
      · as_aux_lemma =>
          have k0 : (kd == 0) = false := by simp [h2]
          have k2 : (kd == 2) = true := by simp [h2]
          clear h2
          obtain ⟨s2, hs2⟩ : ∃ x, resetS s tt = x := ⟨_, rfl⟩
          have CG := reset_any g s tt V HP_V.out.sv
          rw [hs2] at CG
          have CR := fun W h => rreset_any s.size s.per s.frm s.last s.used tt lv L (fun b => b ≠ Rb ∧ b ≠ g) W HP_V.out.rel h
          simp only [show resetS ⟨s.size, s.per, s.frm, s.last, s.used⟩ tt = s2 from hs2] at CR
          have HCG := Lib.hid CG
          have HCR := Lib.hid CR
          clear CG CR hs2
          have x1 : V.cell? ⟨Xb, 1, none⟩ = some (.int .i64 tt) := (row_cell HX_V.out 1).1.trans rfl
          have x2 : V.cell? ⟨Xb, 2, none⟩ = some (.int .i64 nn) := (row_cell HX_V.out 2).1.trans rfl
          go_wp2_with fail
          refine HCG.out.mono ?_
          rintro e w3 ⟨rfl, q3, f3⟩
          clear x0 x1 x2 HCG
          have HQ3 := Lib.hid q3
          have HF3 := Lib.hid f3
          have HR3 : Hid (w3.heap[Rb]? = some (.cells #[.int .i64 s.size, .int .i64 s.per, .int .i64 s.frm, lv] 29 (0, 0))) := (f3.block _ HP_V.out.blt (fun e => HP_V.out.ne e.symm)).trans HP_V.out.bx
          have HX_w3 : Hid (w3.heap[Xb]? = some (.cells #[.int .i64 kd, .int .i64 tt, .int .i64 nn] 34 (0, 0))) := (f3.block _ (Array.getElem?_eq_some_iff.1 HX_V.out).1 XR.out.2).trans HX_V.out
          have hl3 : LV w3 (fun b => b ≠ Rb ∧ b ≠ g) lv L := HP_V.out.lst.fo f3 (fun b hb e => hb.2 e)
          have HCR3 := Lib.hid (HCR.out w3 hl3)
          have S3 : Hid (lo ≤ w3.heap.size) := by have := f3.size; have := HP_V.out.lo_le; unfold Hid; omega
          clear q3 f3 hl3 HCR
          have x1 : w3.cell? ⟨Xb, 1, none⟩ = some (.int .i64 tt) := (row_cell HX_w3.out 1).1.trans rfl
          have x2 : w3.cell? ⟨Xb, 2, none⟩ = some (.int .i64 nn) := (row_cell HX_w3.out 2).1.trans rfl
          have r0 : w3.cell? ⟨Rb, 0, none⟩ = some (.int .i64 s.size) := by rw [(row_cell HR3.out 0).1]; rfl
          have r1 : w3.cell? ⟨Rb, 1, none⟩ = some (.int .i64 s.per) := by rw [(row_cell HR3.out 1).1]; rfl
          have r2 : w3.cell? ⟨Rb, 2, none⟩ = some (.int .i64 s.frm) := by rw [(row_cell HR3.out 2).1]; rfl
          have r3 : w3.cell? ⟨Rb, 3, none⟩ = some (lv) := by rw [(row_cell HR3.out 3).1]; rfl
          go_wp2_with fail
          refine HCR3.out.mono ?_
          rintro e w5 ⟨lv2, L2, rfl, rel2, len2, lst2, hb⟩
          obtain ⟨A2, c2, hlv, _⟩ := lst2.ex
          obtain ⟨n2, hn2⟩ : ∃ n, L2.length = n := ⟨_, rfl⟩
          rw [hn2] at hlv
          subst hlv
          clear hn2
          clear x1 x2 r0 r1 r2 r3 HCR3
          have HRB_ : Hid (w5.heap[Rb]? = some (.cells #[.int .i64 s.size, .int .i64 s.per, .int .i64 s.frm, lv] 29 (0, 0))) := (hb.block _ (Array.getElem?_eq_some_iff.1 HR3.out).1).trans HR3.out
          have HQ5 := Lib.hid (HQ3.out.below hb)
          have REL2 := Lib.hid rel2
          have LEN2 := Lib.hid len2
          have HL2 := Lib.hid lst2
          have HB5 : Hid (Below lo w w5) := (HP_V.out.be.trans (HF3.out.below (fun b hb => by rw [hb]; exact HP_V.out.ll.2) HP_V.out.lo_le)).trans (hb.mono S3.out)
          have S5 : Hid (lo ≤ w5.heap.size) := by have := hb.size; have := S3.out; unfold Hid; omega
          clear rel2 len2 lst2 hb
          have r0 : w5.cell? ⟨Rb, 0, none⟩ = some (.int .i64 s.size) := by rw [(row_cell HRB_.out 0).1]; rfl
          have rz0 : w5.frozen? ⟨Rb, 0, none⟩ = false := (row_cell HRB_.out 0).2
          have r1 : w5.cell? ⟨Rb, 1, none⟩ = some (.int .i64 s.per) := by rw [(row_cell HRB_.out 1).1]; rfl
          have rz1 : w5.frozen? ⟨Rb, 1, none⟩ = false := (row_cell HRB_.out 1).2
          have r2 : w5.cell? ⟨Rb, 2, none⟩ = some (.int .i64 s.frm) := by rw [(row_cell HRB_.out 2).1]; rfl
          have rz2 : w5.frozen? ⟨Rb, 2, none⟩ = false := (row_cell HRB_.out 2).2
          have r3 : w5.cell? ⟨Rb, 3, none⟩ = some (lv) := by rw [(row_cell HRB_.out 3).1]; rfl
          have rz3 : w5.frozen? ⟨Rb, 3, none⟩ = false := (row_cell HRB_.out 3).2
          go_upto_region 9 with fail
          obtain ⟨w6, hw6⟩ : ∃ W, ((((w5).setCell ⟨Rb, 0, none⟩ (.int .i64 s2.size)).setCell ⟨Rb, 1, none⟩ (.int .i64 s2.per)).setCell ⟨Rb, 2, none⟩ (.int .i64 s2.frm)).setCell ⟨Rb, 3, none⟩ (.slice A2 n2 c2) = W := ⟨_, rfl⟩
          rw [hw6]
          have ff : Fo (fun b => b = Rb) w5 w6 := by rw [← hw6]; exact ((((Fo.refl (fun b => b = Rb) w5).setCell (.inl rfl) 0 _).setCell (.inl rfl) 1 _).setCell (.inl rfl) 2 _).setCell (.inl rfl) 3 _
          have fb : w6.heap[Rb]? = some (.cells #[.int .i64 s2.size, .int .i64 s2.per, .int .i64 s2.frm, .slice A2 n2 c2] 29 (0, 0)) := by rw [← hw6]; exact set_at (set_at (set_at (set_at HRB_.out 0 _) 1 _) 2 _) 3 _
          have HPE : Hid (PB lo Rb g w w6 s2 L2 (.slice A2 n2 c2)) := ⟨HQ5.out.fo ff HP_V.out.ne, REL2.out, HL2.out.fo ff (fun b hb e => hb.1 e), fb, HP_V.out.ne, HP_V.out.ll, HB5.out.trans (ff.below (fun b hb => by rw [hb]; exact HP_V.out.ll.1) S5.out)⟩
          clear ff fb hw6 r0 r1 r2 r3 rz0 rz1 rz2 rz3
          go_wp2_with fail
          go_roundw
          case rel =>
            have Q : PyR lo Rb len w (.pointer (some ⟨g, 0, none⟩)) (.int .i64 ((i : Int) + 1)) _ := ⟨⟨i + 1, g, s2, L2, (.slice A2 n2 c2), HJ.out.1, HJ.out.2, by have := HLL.out; have := LEN2.out; omega, rfl, by go_num, HPE.out⟩⟩
            first | exact Q | ((repeat apply Exists.intro); exact ⟨Q, rfl⟩)
          case measure => have := HJ.out; simp [intOf]; omega
      by_cases h3 : kd = 3
      · as_aux_lemma =>
          have k0 : (kd == 0) = false := by simp [h3]
          have k2 : (kd == 2) = false := by simp [h3]
          have k3 : (kd == 3) = true := by simp [h3]
          clear h3
          obtain ⟨A1, c1, hlv1, _⟩ := HP_V.out.lst.ex
          obtain ⟨n1, hn1⟩ : ∃ n, L.length = n := ⟨_, rfl⟩
          rw [hn1] at hlv1
          subst hlv1
          clear hn1
          have heq : s.eqB s = true := (Sv.eqB_iff _ _).2 rfl
          have HEQ := Lib.hid heq
          obtain ⟨c, hc⟩ : ∃ c, chN s tt nn = c := ⟨_, rfl⟩
          obtain ⟨ov, hov⟩ : ∃ o, decide (c < nn) = o := ⟨_, rfl⟩
          obtain ⟨s2, hs2⟩ : ∃ x, chS s tt nn = x := ⟨_, rfl⟩
          obtain ⟨q, hq⟩ : ∃ x, s.eqB s2 = x := ⟨_, rfl⟩
          have hcd := ch_dec s tt nn HP_V.out.sv.ok
          rw [hc, hov] at hcd
          have hkp := ch_keep s tt nn
          rw [hs2] at hkp
          have HMV : Hid (0 < c → q = false) := fun h => by rw [← hq, ← hs2]; exact ch_moves (by rw [hc]; exact h)
          have HQE : Hid (decide (s2.last = s.last ∧ s2.used = s.used) = q) := by rw [← hq]; exact (eqB_of hkp.1 hkp.2.1 hkp.2.2).symm
          have HK := Lib.hid hkp
          have HQ := Lib.hid hq
          have CG := fun W h => charge_any g s tt nn W h
          simp only [hc, hcd, hs2] at CG
          have CR := fun W h => rcharge_any s.size s.per s.frm s.last s.used tt nn (.slice A1 n1 c1) L (fun b => b ≠ Rb ∧ b ≠ g) W HP_V.out.sv.ok HP_V.out.rel h (by have := HLL.out; have := HI.out.2; omega)
          simp only [show chN ⟨s.size, s.per, s.frm, s.last, s.used⟩ tt nn = c from hc, hov, show chS ⟨s.size, s.per, s.frm, s.last, s.used⟩ tt nn = s2 from hs2] at CR
          have HCG := Lib.hid CG
          have HCR := Lib.hid CR
          clear CG CR hc hov hs2 hcd hkp heq hq
          have CL := Lib.hid (clone_any g s V HP_V.out.sv)
          obtain ⟨cg, hcg⟩ : ∃ x, V.heap.size = x := ⟨_, rfl⟩
          rw [hcg] at CL
          have HCN : Hid (cg ≠ g ∧ cg ≠ Rb ∧ lo ≤ cg ∧ V.heap.size = cg) := ⟨by have := HP_V.out.sv.lt; omega, by have := HP_V.out.blt; omega, by have := HP_V.out.lo_le; omega, hcg⟩
          clear hcg
          go_wp2_with fail
          refine CL.out.mono ?_
          rintro e w1 ⟨rfl, q1, b1⟩
          clear CL x0
          have HC1 := Lib.hid q1
          have BV_w1 : Hid (Below V.heap.size V w1) := by unfold Hid; rw [HCN.out.2.2.2]; exact b1
          have BC_w1 : Hid (Below w1.heap.size w1 w1) := Below.refl _ _
          have HP_w1 : Hid (PB lo Rb g w w1 s L (.slice A1 n1 c1)) := HP_V.out.below BV_w1.out
          clear q1 b1
          go_wp2_with fail
          refine (same_any cg g s s w1 HC1.out HP_w1.out.sv).mono ?_
          rintro e w2 ⟨rfl, hq⟩
          rw [HEQ.out]
          have hb : Below w1.heap.size w1 w2 := by obtain ⟨m, rfl⟩ := hq; exact quiet_below rfl
          clear hq
          have BV_w2 : Hid (Below V.heap.size V w2) := BV_w1.out.trans (hb.mono BV_w1.out.size)
          have BC_w2 : Hid (Below w1.heap.size w1 w2) := BC_w1.out.trans (hb.mono BC_w1.out.size)
          have HP_w2 : Hid (PB lo Rb g w w2 s L (.slice A1 n1 c1)) := HP_V.out.below BV_w2.out
          have HX_w2 : Hid (w2.heap[Xb]? = some (.cells #[.int .i64 kd, .int .i64 tt, .int .i64 nn] 34 (0, 0))) := (BV_w2.out.block _ (Array.getElem?_eq_some_iff.1 HX_V.out).1).trans HX_V.out
          clear hb
          go_wp2_with fail
          refine (same_any g cg s s w2 HP_w2.out.sv (HC1.out.below BC_w2.out)).mono ?_
          rintro e w3 ⟨rfl, hq⟩
          rw [HEQ.out]
          have hb : Below w2.heap.size w2 w3 := by obtain ⟨m, rfl⟩ := hq; exact quiet_below rfl
          clear hq
          have BV_w3 : Hid (Below V.heap.size V w3) := BV_w2.out.trans (hb.mono BV_w2.out.size)
          have BC_w3 : Hid (Below w1.heap.size w1 w3) := BC_w2.out.trans (hb.mono BC_w2.out.size)
          have HP_w3 : Hid (PB lo Rb g w w3 s L (.slice A1 n1 c1)) := HP_V.out.below BV_w3.out
          have HX_w3 : Hid (w3.heap[Xb]? = some (.cells #[.int .i64 kd, .int .i64 tt, .int .i64 nn] 34 (0, 0))) := (BV_w3.out.block _ (Array.getElem?_eq_some_iff.1 HX_V.out).1).trans HX_V.out
          clear hb
          have r0 : w3.cell? ⟨Rb, 0, none⟩ = some (.int .i64 s.size) := by rw [(row_cell HP_w3.out.bx 0).1]; rfl
          have r1 : w3.cell? ⟨Rb, 1, none⟩ = some (.int .i64 s.per) := by rw [(row_cell HP_w3.out.bx 1).1]; rfl
          have r2 : w3.cell? ⟨Rb, 2, none⟩ = some (.int .i64 s.frm) := by rw [(row_cell HP_w3.out.bx 2).1]; rfl
          have r3 : w3.cell? ⟨Rb, 3, none⟩ = some (.slice A1 n1 c1) := by rw [(row_cell HP_w3.out.bx 3).1]; rfl
          obtain ⟨w4, hW⟩ : ∃ W, w3.alloc (.cells #[.int .i64 s.size, .int .i64 s.per, .int .i64 s.frm, .slice A1 n1 c1] 29) = W := ⟨_, rfl⟩
          obtain ⟨Bc, hN⟩ : ∃ b, w3.heap.size = b := ⟨_, rfl⟩
          have hb : Below w3.heap.size w3 w4 := by rw [← hW]; exact (Below.refl _ _).alloc (Nat.le_refl _) _
          have HBc_w4 : Hid (w4.heap[Bc]? = some (.cells #[.int .i64 s.size, .int .i64 s.per, .int .i64 s.frm, .slice A1 n1 c1] 29 (0, 0))) := by rw [← hW, ← hN]; exact heap_alloc_new _ _
          have BV_w4 : Hid (Below V.heap.size V w4) := BV_w3.out.trans (hb.mono BV_w3.out.size)
          have BC_w4 : Hid (Below w1.heap.size w1 w4) := BC_w3.out.trans (hb.mono BC_w3.out.size)
          have HP_w4 : Hid (PB lo Rb g w w4 s L (.slice A1 n1 c1)) := HP_V.out.below BV_w4.out
          have HX_w4 : Hid (w4.heap[Xb]? = some (.cells #[.int .i64 kd, .int .i64 tt, .int .i64 nn] 34 (0, 0))) := (BV_w4.out.block _ (Array.getElem?_eq_some_iff.1 HX_V.out).1).trans HX_V.out
          have BcG : Hid (Bc ≠ g ∧ Bc ≠ Rb) := ⟨by have := HP_w3.out.sv.lt; omega, by have := HP_w3.out.blt; omega⟩
          have HWW := Lib.hid hW
          have HNN := Lib.hid hN
          have H34 : Hid (w3.heap.size ≤ w4.heap.size ∧ ∀ k, k < w3.heap.size → w4.heap[k]? = w3.heap[k]?) := ⟨hb.size, hb.block⟩
          clear hW hN hb
          go_upto_region 28 with fail
          try simp only [HWW.out, HNN.out]
          clear HWW HNN
          clear r0 r1 r2 r3
          have x1 : w4.cell? ⟨Xb, 1, none⟩ = some (.int .i64 tt) := (row_cell HX_w4.out 1).1.trans rfl
          have x2 : w4.cell? ⟨Xb, 2, none⟩ = some (.int .i64 nn) := (row_cell HX_w4.out 2).1.trans rfl
          have r0 : w4.cell? ⟨Rb, 0, none⟩ = some (.int .i64 s.size) := by rw [(row_cell HP_w4.out.bx 0).1]; rfl
          have r1 : w4.cell? ⟨Rb, 1, none⟩ = some (.int .i64 s.per) := by rw [(row_cell HP_w4.out.bx 1).1]; rfl
          have r2 : w4.cell? ⟨Rb, 2, none⟩ = some (.int .i64 s.frm) := by rw [(row_cell HP_w4.out.bx 2).1]; rfl
          have r3 : w4.cell? ⟨Rb, 3, none⟩ = some (.slice A1 n1 c1) := by rw [(row_cell HP_w4.out.bx 3).1]; rfl
          go_wp2_with fail
          refine (HCR.out w4 HP_w4.out.lst).mono ?_
          rintro e w5 ⟨lv2, L2, rfl, rel2, lst2, len2, hb⟩
          obtain ⟨A2, c2, hlv, _⟩ := lst2.ex
          obtain ⟨n2, hn2⟩ : ∃ n, L2.length = n := ⟨_, rfl⟩
          rw [hn2] at hlv
          subst hlv
          clear hn2 x1 x2 r0 r1 r2 r3 HCR
          have BV_w5 : Hid (Below V.heap.size V w5) := BV_w4.out.trans (hb.mono BV_w4.out.size)
          have BC_w5 : Hid (Below w1.heap.size w1 w5) := BC_w4.out.trans (hb.mono BC_w4.out.size)
          have HP_w5 : Hid (PB lo Rb g w w5 s L (.slice A1 n1 c1)) := HP_V.out.below BV_w5.out
          have HX_w5 : Hid (w5.heap[Xb]? = some (.cells #[.int .i64 kd, .int .i64 tt, .int .i64 nn] 34 (0, 0))) := (BV_w5.out.block _ (Array.getElem?_eq_some_iff.1 HX_V.out).1).trans HX_V.out
          have REL2 := Lib.hid rel2
          have LEN2 := Lib.hid len2
          have hl2 : LV w5 (fun b => b ≠ Rb ∧ b ≠ g) (.slice A2 n2 c2) L2 := lst2.imp (fun b hb hp => by rcases hp with hp | hp; exact hp; have := HP_w4.out.blt; have := HP_w4.out.sv.lt; exact ⟨by omega, by omega⟩)
          have HBc_w5 := Lib.hid ((hb.block _ (Array.getElem?_eq_some_iff.1 HBc_w4.out).1).trans HBc_w4.out)
          have HL5 := Lib.hid hl2
          clear hb rel2 lst2 len2 hl2
          obtain ⟨w6, hW⟩ : ∃ W, w5.alloc (.cells #[.int .i64 s.size, .int .i64 s.per, .int .i64 s.frm, .slice A2 n2 c2] 29) = W := ⟨_, rfl⟩
          obtain ⟨Bd, hN⟩ : ∃ b, w5.heap.size = b := ⟨_, rfl⟩
          have hb : Below w5.heap.size w5 w6 := by rw [← hW]; exact (Below.refl _ _).alloc (Nat.le_refl _) _
          have HBd_w6 : Hid (w6.heap[Bd]? = some (.cells #[.int .i64 s.size, .int .i64 s.per, .int .i64 s.frm, .slice A2 n2 c2] 29 (0, 0))) := by rw [← hW, ← hN]; exact heap_alloc_new _ _
          have BV_w6 : Hid (Below V.heap.size V w6) := BV_w5.out.trans (hb.mono BV_w5.out.size)
          have BC_w6 : Hid (Below w1.heap.size w1 w6) := BC_w5.out.trans (hb.mono BC_w5.out.size)
          have HP_w6 : Hid (PB lo Rb g w w6 s L (.slice A1 n1 c1)) := HP_V.out.below BV_w6.out
          have HX_w6 : Hid (w6.heap[Xb]? = some (.cells #[.int .i64 kd, .int .i64 tt, .int .i64 nn] 34 (0, 0))) := (BV_w6.out.block _ (Array.getElem?_eq_some_iff.1 HX_V.out).1).trans HX_V.out
          have BdG : Hid (Bd ≠ g ∧ Bd ≠ Rb) := ⟨by have := HP_w5.out.sv.lt; omega, by have := HP_w5.out.blt; omega⟩
          have HWW := Lib.hid hW
          have HNN := Lib.hid hN
          have H56 : Hid (w5.heap.size ≤ w6.heap.size ∧ ∀ k, k < w5.heap.size → w6.heap[k]? = w5.heap[k]?) := ⟨hb.size, hb.block⟩
          clear hW hN hb
          go_upto_region 29 with fail
          try simp only [HWW.out, HNN.out]
          clear HWW HNN
          have hb56 : Below w5.heap.size w5 w6 := ⟨BV_w6.out.os.trans BV_w5.out.os.symm, BV_w6.out.tape.trans BV_w5.out.tape.symm, BV_w6.out.output.trans BV_w5.out.output.symm, H56.out.1, H56.out.2⟩
          have HBc_w6 := Lib.hid ((hb56.block _ (Array.getElem?_eq_some_iff.1 HBc_w5.out).1).trans HBc_w5.out)
          have HL6 := Lib.hid (HL5.out.below hb56)
          clear hb56
          have x1 : w6.cell? ⟨Xb, 1, none⟩ = some (.int .i64 tt) := (row_cell HX_w6.out 1).1.trans rfl
          have x2 : w6.cell? ⟨Xb, 2, none⟩ = some (.int .i64 nn) := (row_cell HX_w6.out 2).1.trans rfl
          go_wp2_with fail
          refine (HCG.out w6 HP_w6.out.sv).mono ?_
          rintro e w7 ⟨rfl, q7, f7⟩
          have HQ7 := Lib.hid q7
          have HF7 := Lib.hid f7
          have HLc : Hid (LV w7 (fun b => b ≠ Rb ∧ b ≠ g ∧ b ≠ cg) (.slice A1 n1 c1) L) := ((HP_V.out.lst.imp (q := fun b => b ≠ Rb ∧ b ≠ g ∧ b ≠ cg) (fun b hb hp => ⟨hp.1, hp.2, by have := HCN.out.2.2.2; omega⟩)).below BV_w6.out).fo f7 (fun b hb e => hb.2.1 e)
          have HPc : Hid (PB lo Rb cg w w7 s L (.slice A1 n1 c1)) := (HP_V.out.clone (by have := HCN.out.2.2.2; omega) BV_w6.out (HC1.out.below BC_w6.out)).fo f7 (fun e => HP_V.out.ne e.symm) HCN.out.1 (fun b hb => by rw [hb]; exact HP_V.out.ll.2) (HLc.out.imp (fun b _ hp => ⟨hp.1, hp.2.2⟩))
          have HBc_w7 := Lib.hid ((f7.block _ (Array.getElem?_eq_some_iff.1 HBc_w6.out).1 BcG.out.1).trans HBc_w6.out)
          have HBd_w7 := Lib.hid ((f7.block _ (Array.getElem?_eq_some_iff.1 HBd_w6.out).1 BdG.out.1).trans HBd_w6.out)
          have HL7 := Lib.hid (HL6.out.fo f7 (fun b hb e => hb.2 e))
          clear q7 f7 x1 x2 HCG
          go_upto_region 30 with fail
          obtain ⟨HPc_w7, HQ_w7, HL_w7⟩ := And.intro HPc (And.intro HQ7 HL7)
          clear HPc HQ7 HL7
          refine wp_region_held_drew (S := (fun w' => w'.cell? ⟨Bd, 0, none⟩ = some (.int .i64 s.size) ∧ w'.cell? ⟨Bd, 1, none⟩ = some (.int .i64 s.per) ∧ w'.cell? ⟨Bd, 2, none⟩ = some (.int .i64 s.frm) ∧ w'.cell? ⟨Bd, 3, none⟩ = some (.slice A2 n2 c2) ∧ w'.cell? ⟨Bc, 0, none⟩ = some (.int .i64 s.size) ∧ w'.cell? ⟨Bc, 1, none⟩ = some (.int .i64 s.per) ∧ w'.cell? ⟨Bc, 2, none⟩ = some (.int .i64 s.frm) ∧ w'.cell? ⟨Bc, 3, none⟩ = some (.slice A1 n1 c1))) (by kernel_rfl) ⟨(row_cell HBd_w7.out 0).1.trans rfl, (row_cell HBd_w7.out 1).1.trans rfl, (row_cell HBd_w7.out 2).1.trans rfl, (row_cell HBd_w7.out 3).1.trans rfl, (row_cell HBc_w7.out 0).1.trans rfl, (row_cell HBc_w7.out 1).1.trans rfl, (row_cell HBc_w7.out 2).1.trans rfl, (row_cell HBc_w7.out 3).1.trans rfl⟩ (fun hHeld => ?_)
          obtain ⟨v1, hv1⟩ : ∃ W, w7.drew = W := ⟨_, rfl⟩
          have hb : Below w7.heap.size w7 v1 := by rw [← hv1]; exact (Below.refl _ _).drew
          have HPc_v1 : Hid (PB lo Rb cg w v1 s L (.slice A1 n1 c1)) := HPc_w7.out.below hb
          have HQ_v1 := Lib.hid (HQ_w7.out.below hb)
          have HL_v1 := Lib.hid (HL_w7.out.below hb)
          have HBc_v1 := Lib.hid ((hb.block _ (Array.getElem?_eq_some_iff.1 HBc_w7.out).1).trans HBc_w7.out)
          have HBd_v1 := Lib.hid ((hb.block _ (Array.getElem?_eq_some_iff.1 HBd_w7.out).1).trans HBd_w7.out)
          clear hb
          simp only [hv1]
          clear hv1
          refine takeD (i := 0) (d := some 176) (v := ?_) _ rfl rfl (by kernel_rfl) (by kernel_rfl) (by kernel_rfl) (fun _ _ _ h => h) (by rfl) ?_ ⟨(row_cell HBd_v1.out 0).1.trans rfl, (row_cell HBd_v1.out 1).1.trans rfl, (row_cell HBd_v1.out 2).1.trans rfl, (row_cell HBd_v1.out 3).1.trans rfl, (row_cell HBc_v1.out 0).1.trans rfl, (row_cell HBc_v1.out 1).1.trans rfl, (row_cell HBc_v1.out 2).1.trans rfl, (row_cell HBc_v1.out 3).1.trans rfl⟩ ?_
          rotate_left
          · (intro w hSw; (try dsimp only at hSw); go_simp) <;> with_reducible rfl
          try simp only [Act.put, List.setIfInBounds_toArray, List.set_cons_zero, List.set_cons_succ]
          refine takeD (i := 1) (d := some 177) (v := ?_) _ rfl rfl (by kernel_rfl) (by kernel_rfl) (by kernel_rfl) (fun _ _ _ h => h) (by rfl) ?_ ⟨(row_cell HBd_v1.out 0).1.trans rfl, (row_cell HBd_v1.out 1).1.trans rfl, (row_cell HBd_v1.out 2).1.trans rfl, (row_cell HBd_v1.out 3).1.trans rfl, (row_cell HBc_v1.out 0).1.trans rfl, (row_cell HBc_v1.out 1).1.trans rfl, (row_cell HBc_v1.out 2).1.trans rfl, (row_cell HBc_v1.out 3).1.trans rfl⟩ ?_
          rotate_left
          · (intro w hSw; (try dsimp only at hSw); go_simp) <;> with_reducible rfl
          try simp only [Act.put, List.setIfInBounds_toArray, List.set_cons_zero, List.set_cons_succ]
          refine takeD (i := 3) (d := some 179) (v := ?_) _ rfl rfl (by kernel_rfl) (by kernel_rfl) (by kernel_rfl) (fun _ _ _ h => h) (by rfl) ?_ ⟨(row_cell HBd_v1.out 0).1.trans rfl, (row_cell HBd_v1.out 1).1.trans rfl, (row_cell HBd_v1.out 2).1.trans rfl, (row_cell HBd_v1.out 3).1.trans rfl, (row_cell HBc_v1.out 0).1.trans rfl, (row_cell HBc_v1.out 1).1.trans rfl, (row_cell HBc_v1.out 2).1.trans rfl, (row_cell HBc_v1.out 3).1.trans rfl⟩ ?_
          rotate_left
          · (intro w hSw; (try dsimp only at hSw); go_simp) <;> with_reducible rfl
          try simp only [Act.put, List.setIfInBounds_toArray, List.set_cons_zero, List.set_cons_succ]
          refine takeD (i := 4) (d := some 180) (v := ?_) _ rfl rfl (by kernel_rfl) (by kernel_rfl) (by kernel_rfl) (fun _ _ _ h => h) (by rfl) ?_ ⟨(row_cell HBd_v1.out 0).1.trans rfl, (row_cell HBd_v1.out 1).1.trans rfl, (row_cell HBd_v1.out 2).1.trans rfl, (row_cell HBd_v1.out 3).1.trans rfl, (row_cell HBc_v1.out 0).1.trans rfl, (row_cell HBc_v1.out 1).1.trans rfl, (row_cell HBc_v1.out 2).1.trans rfl, (row_cell HBc_v1.out 3).1.trans rfl⟩ ?_
          rotate_left
          · (intro w hSw; (try dsimp only at hSw); go_simp) <;> with_reducible rfl
          try simp only [Act.put, List.setIfInBounds_toArray, List.set_cons_zero, List.set_cons_succ]
          refine wpAnyH_ready (rs := [2]) (by kernel_rfl) (by simp) ?_
          refine AllReadyH.cons rfl (fun K0 hK => ?_) AllReadyH.nil
          try go_simp
          go_at_call 21
          refine (same_any cg g s s2 v1 HPc_v1.out.sv HQ_v1.out).mono ?_
          rintro e v2 ⟨rfl, hq⟩
          rw [HQ.out]
          have hb : Below v1.heap.size v1 v2 := by obtain ⟨m, rfl⟩ := hq; exact quiet_below rfl
          clear hq
          have HPc_v2 : Hid (PB lo Rb cg w v2 s L (.slice A1 n1 c1)) := HPc_v1.out.below hb
          have HQ_v2 := Lib.hid (HQ_v1.out.below hb)
          have HL_v2 := Lib.hid (HL_v1.out.below hb)
          have HBc_v2 := Lib.hid ((hb.block _ (Array.getElem?_eq_some_iff.1 HBc_v1.out).1).trans HBc_v1.out)
          have HBd_v2 := Lib.hid ((hb.block _ (Array.getElem?_eq_some_iff.1 HBd_v1.out).1).trans HBd_v1.out)
          clear hb
          try go_wp2_with fail
          refine hK.out _ _ ⟨(row_cell HBd_v2.out 0).1.trans rfl, (row_cell HBd_v2.out 1).1.trans rfl, (row_cell HBd_v2.out 2).1.trans rfl, (row_cell HBd_v2.out 3).1.trans rfl, (row_cell HBc_v2.out 0).1.trans rfl, (row_cell HBc_v2.out 1).1.trans rfl, (row_cell HBc_v2.out 2).1.trans rfl, (row_cell HBc_v2.out 3).1.trans rfl⟩ (fun hHeld => ?_)
          clear hK K0
          try simp only [Act.put, List.setIfInBounds_toArray, List.set_cons_zero, List.set_cons_succ]
          refine wpAnyH_ready (rs := [5]) (by kernel_rfl) (by simp) ?_
          refine AllReadyH.cons rfl (fun K0 hK => ?_) AllReadyH.nil
          try go_simp
          go_at_call 22
          refine (rsame_any s.size s.per s.frm s2.last s2.used s.last s.used (.slice A2 n2 c2) (.slice A1 n1 c1) L2 L _ _ v2 (by have h := REL2.out; have hk := HK.out; rw [← hk.1, ← hk.2.1, ← hk.2.2]; exact h) HPc_v2.out.rel HL_v2.out HPc_v2.out.lst (by have := HLL.out; have := LEN2.out; have := HJ.out.2; omega) (by have := HLL.out; have := HI.out.2; omega)).mono ?_
          rintro e v3 ⟨rfl, hb⟩
          rw [HQE.out]
          have HPc_v3 : Hid (PB lo Rb cg w v3 s L (.slice A1 n1 c1)) := HPc_v2.out.below hb
          have HQ_v3 := Lib.hid (HQ_v2.out.below hb)
          have HL_v3 := Lib.hid (HL_v2.out.below hb)
          have HBc_v3 := Lib.hid ((hb.block _ (Array.getElem?_eq_some_iff.1 HBc_v2.out).1).trans HBc_v2.out)
          have HBd_v3 := Lib.hid ((hb.block _ (Array.getElem?_eq_some_iff.1 HBd_v2.out).1).trans HBd_v2.out)
          clear hb
          try go_wp2_with fail
          refine hK.out _ _ ⟨(row_cell HBd_v3.out 0).1.trans rfl, (row_cell HBd_v3.out 1).1.trans rfl, (row_cell HBd_v3.out 2).1.trans rfl, (row_cell HBd_v3.out 3).1.trans rfl, (row_cell HBc_v3.out 0).1.trans rfl, (row_cell HBc_v3.out 1).1.trans rfl, (row_cell HBc_v3.out 2).1.trans rfl, (row_cell HBc_v3.out 3).1.trans rfl⟩ (fun hHeld => ?_)
          clear hK K0
          try simp only [Act.put, List.setIfInBounds_toArray, List.set_cons_zero, List.set_cons_succ]
          refine takeD (i := 6) (d := some 182) (v := ?_) _ rfl rfl (by kernel_rfl) (by kernel_rfl) (by kernel_rfl) (fun _ _ _ h => h) (by rfl) ?_ ⟨(row_cell HBd_v3.out 0).1.trans rfl, (row_cell HBd_v3.out 1).1.trans rfl, (row_cell HBd_v3.out 2).1.trans rfl, (row_cell HBd_v3.out 3).1.trans rfl, (row_cell HBc_v3.out 0).1.trans rfl, (row_cell HBc_v3.out 1).1.trans rfl, (row_cell HBc_v3.out 2).1.trans rfl, (row_cell HBc_v3.out 3).1.trans rfl⟩ ?_
          rotate_left
          · (intro w hSw; (try dsimp only at hSw); go_simp) <;> with_reducible rfl
          try simp only [Act.put, List.setIfInBounds_toArray, List.set_cons_zero, List.set_cons_succ]
          refine takeD (i := 7) (d := some 183) (v := ?_) _ rfl rfl (by kernel_rfl) (by kernel_rfl) (by kernel_rfl) (fun _ _ _ h => h) (by rfl) ?_ ⟨(row_cell HBd_v3.out 0).1.trans rfl, (row_cell HBd_v3.out 1).1.trans rfl, (row_cell HBd_v3.out 2).1.trans rfl, (row_cell HBd_v3.out 3).1.trans rfl, (row_cell HBc_v3.out 0).1.trans rfl, (row_cell HBc_v3.out 1).1.trans rfl, (row_cell HBc_v3.out 2).1.trans rfl, (row_cell HBc_v3.out 3).1.trans rfl⟩ ?_
          rotate_left
          · (intro w hSw; (try dsimp only at hSw); go_simp) <;> with_reducible rfl
          try simp only [Act.put, List.setIfInBounds_toArray, List.set_cons_zero, List.set_cons_succ]
          refine takeD (i := 8) (d := some 184) (v := ?_) _ rfl rfl (by kernel_rfl) (by kernel_rfl) (by kernel_rfl) (fun _ _ _ h => h) (by rfl) ?_ ⟨(row_cell HBd_v3.out 0).1.trans rfl, (row_cell HBd_v3.out 1).1.trans rfl, (row_cell HBd_v3.out 2).1.trans rfl, (row_cell HBd_v3.out 3).1.trans rfl, (row_cell HBc_v3.out 0).1.trans rfl, (row_cell HBc_v3.out 1).1.trans rfl, (row_cell HBc_v3.out 2).1.trans rfl, (row_cell HBc_v3.out 3).1.trans rfl⟩ ?_
          rotate_left
          · (intro w hSw; (try dsimp only at hSw); go_simp) <;> with_reducible rfl
          try simp only [Act.put, List.setIfInBounds_toArray, List.set_cons_zero, List.set_cons_succ]
          by_cases hz : 0 < c
          · have k9 : decide (0 < c) = true := by simp only [hz, decide_true]
            have HZ := Lib.hid hz
            clear hz
            refine takeD (i := 9) (d := some 185) (v := ?_) _ rfl rfl (by kernel_rfl) (by kernel_rfl) (by kernel_rfl) (fun _ _ _ h => h) (by rfl) ?_ ⟨(row_cell HBd_v3.out 0).1.trans rfl, (row_cell HBd_v3.out 1).1.trans rfl, (row_cell HBd_v3.out 2).1.trans rfl, (row_cell HBd_v3.out 3).1.trans rfl, (row_cell HBc_v3.out 0).1.trans rfl, (row_cell HBc_v3.out 1).1.trans rfl, (row_cell HBc_v3.out 2).1.trans rfl, (row_cell HBc_v3.out 3).1.trans rfl⟩ ?_
            rotate_left
            · (intro w hSw; (try dsimp only at hSw); go_simp) <;> with_reducible rfl
            try simp only [Act.put, List.setIfInBounds_toArray, List.set_cons_zero, List.set_cons_succ]
            refine takeD (i := 10) (d := some 186) (v := ?_) _ rfl rfl (by kernel_rfl) (by kernel_rfl) (by kernel_rfl) (fun _ _ _ h => h) (by rfl) ?_ ⟨(row_cell HBd_v3.out 0).1.trans rfl, (row_cell HBd_v3.out 1).1.trans rfl, (row_cell HBd_v3.out 2).1.trans rfl, (row_cell HBd_v3.out 3).1.trans rfl, (row_cell HBc_v3.out 0).1.trans rfl, (row_cell HBc_v3.out 1).1.trans rfl, (row_cell HBc_v3.out 2).1.trans rfl, (row_cell HBc_v3.out 3).1.trans rfl⟩ ?_
            rotate_left
            · (intro w hSw; (try dsimp only at hSw); go_simp) <;> with_reducible rfl
            try simp only [Act.put, List.setIfInBounds_toArray, List.set_cons_zero, List.set_cons_succ]
            refine takeD (i := 11) (d := some 187) (v := ?_) _ rfl rfl (by kernel_rfl) (by kernel_rfl) (by kernel_rfl) (fun _ _ _ h => h) (by rfl) ?_ ⟨(row_cell HBd_v3.out 0).1.trans rfl, (row_cell HBd_v3.out 1).1.trans rfl, (row_cell HBd_v3.out 2).1.trans rfl, (row_cell HBd_v3.out 3).1.trans rfl, (row_cell HBc_v3.out 0).1.trans rfl, (row_cell HBc_v3.out 1).1.trans rfl, (row_cell HBc_v3.out 2).1.trans rfl, (row_cell HBc_v3.out 3).1.trans rfl⟩ ?_
            rotate_left
            · (intro w hSw; (try dsimp only at hSw); go_simp) <;> with_reducible rfl
            try simp only [Act.put, List.setIfInBounds_toArray, List.set_cons_zero, List.set_cons_succ]
            refine takeD (i := 12) (d := some 188) (v := ?_) _ rfl rfl (by kernel_rfl) (by kernel_rfl) (by kernel_rfl) (fun _ _ _ h => h) (by rfl) ?_ ⟨(row_cell HBd_v3.out 0).1.trans rfl, (row_cell HBd_v3.out 1).1.trans rfl, (row_cell HBd_v3.out 2).1.trans rfl, (row_cell HBd_v3.out 3).1.trans rfl, (row_cell HBc_v3.out 0).1.trans rfl, (row_cell HBc_v3.out 1).1.trans rfl, (row_cell HBc_v3.out 2).1.trans rfl, (row_cell HBc_v3.out 3).1.trans rfl⟩ ?_
            rotate_left
            · (intro w hSw; (try dsimp only at hSw); go_simp) <;> with_reducible rfl
            try simp only [Act.put, List.setIfInBounds_toArray, List.set_cons_zero, List.set_cons_succ]
            refine wpAnyH_ready (rs := [13]) (by kernel_rfl) (by simp) ?_
            refine AllReadyH.cons rfl (fun K0 hK => ?_) AllReadyH.nil
            try go_simp
            go_at_call 21
            refine (same_any cg g s s2 v3 HPc_v3.out.sv HQ_v3.out).mono ?_
            rintro e v4 ⟨rfl, hq⟩
            rw [HQ.out, HMV.out HZ.out]
            have hb : Below v3.heap.size v3 v4 := by obtain ⟨m, rfl⟩ := hq; exact quiet_below rfl
            clear hq
            have HPc_v4 : Hid (PB lo Rb cg w v4 s L (.slice A1 n1 c1)) := HPc_v3.out.below hb
            have HQ_v4 := Lib.hid (HQ_v3.out.below hb)
            have HL_v4 := Lib.hid (HL_v3.out.below hb)
            have HBc_v4 := Lib.hid ((hb.block _ (Array.getElem?_eq_some_iff.1 HBc_v3.out).1).trans HBc_v3.out)
            have HBd_v4 := Lib.hid ((hb.block _ (Array.getElem?_eq_some_iff.1 HBd_v3.out).1).trans HBd_v3.out)
            clear hb
            try go_wp2_with fail
            refine hK.out _ _ ⟨(row_cell HBd_v4.out 0).1.trans rfl, (row_cell HBd_v4.out 1).1.trans rfl, (row_cell HBd_v4.out 2).1.trans rfl, (row_cell HBd_v4.out 3).1.trans rfl, (row_cell HBc_v4.out 0).1.trans rfl, (row_cell HBc_v4.out 1).1.trans rfl, (row_cell HBc_v4.out 2).1.trans rfl, (row_cell HBc_v4.out 3).1.trans rfl⟩ (fun hHeld => ?_)
            clear hK K0
            try simp only [Act.put, List.setIfInBounds_toArray, List.set_cons_zero, List.set_cons_succ]
            refine takeD (i := 14) (d := some 190) (v := ?_) _ rfl rfl (by kernel_rfl) (by kernel_rfl) (by kernel_rfl) (fun _ _ _ h => h) (by rfl) ?_ ⟨(row_cell HBd_v4.out 0).1.trans rfl, (row_cell HBd_v4.out 1).1.trans rfl, (row_cell HBd_v4.out 2).1.trans rfl, (row_cell HBd_v4.out 3).1.trans rfl, (row_cell HBc_v4.out 0).1.trans rfl, (row_cell HBc_v4.out 1).1.trans rfl, (row_cell HBc_v4.out 2).1.trans rfl, (row_cell HBc_v4.out 3).1.trans rfl⟩ ?_
            rotate_left
            · (intro w hSw; (try dsimp only at hSw); go_simp) <;> with_reducible rfl
            try simp only [Act.put, List.setIfInBounds_toArray, List.set_cons_zero, List.set_cons_succ]
            refine takeD (i := 15) (d := some 191) (v := ?_) _ rfl rfl (by kernel_rfl) (by kernel_rfl) (by kernel_rfl) (fun _ _ _ h => h) (by rfl) ?_ ⟨(row_cell HBd_v4.out 0).1.trans rfl, (row_cell HBd_v4.out 1).1.trans rfl, (row_cell HBd_v4.out 2).1.trans rfl, (row_cell HBd_v4.out 3).1.trans rfl, (row_cell HBc_v4.out 0).1.trans rfl, (row_cell HBc_v4.out 1).1.trans rfl, (row_cell HBc_v4.out 2).1.trans rfl, (row_cell HBc_v4.out 3).1.trans rfl⟩ ?_
            rotate_left
            · (intro w hSw; (try dsimp only at hSw); go_simp) <;> with_reducible rfl
            try simp only [Act.put, List.setIfInBounds_toArray, List.set_cons_zero, List.set_cons_succ]
            refine wpAnyH_done (by kernel_rfl) ?_ _
            go_wp2_with fail
            go_roundw
            case rel =>
              have Q : PyR lo Rb len w (.pointer (some ⟨cg, 0, none⟩)) (.int .i64 ((i : Int) + 1)) _ := ⟨⟨i + 1, cg, s, L, (.slice A1 n1 c1), HJ.out.1, HJ.out.2, by have := HLL.out; omega, rfl, by go_num, HPc_v4.out⟩⟩
              first | exact Q | ((repeat apply Exists.intro); exact ⟨Q, rfl⟩)
            case measure => have := HJ.out; simp [intOf]; omega
          have k9 : decide (0 < c) = false := by simp only [hz, decide_false]
          clear hz
          refine takeD (i := 9) (d := some 185) (v := ?_) _ rfl rfl (by kernel_rfl) (by kernel_rfl) (by kernel_rfl) (fun _ _ _ h => h) (by rfl) ?_ ⟨(row_cell HBd_v3.out 0).1.trans rfl, (row_cell HBd_v3.out 1).1.trans rfl, (row_cell HBd_v3.out 2).1.trans rfl, (row_cell HBd_v3.out 3).1.trans rfl, (row_cell HBc_v3.out 0).1.trans rfl, (row_cell HBc_v3.out 1).1.trans rfl, (row_cell HBc_v3.out 2).1.trans rfl, (row_cell HBc_v3.out 3).1.trans rfl⟩ ?_
          rotate_left
          · (intro w hSw; (try dsimp only at hSw); go_simp) <;> with_reducible rfl
          try simp only [Act.put, List.setIfInBounds_toArray, List.set_cons_zero, List.set_cons_succ]
          refine takeD (i := 10) (d := some 186) (v := ?_) _ rfl rfl (by kernel_rfl) (by kernel_rfl) (by kernel_rfl) (fun _ _ _ h => h) (by rfl) ?_ ⟨(row_cell HBd_v3.out 0).1.trans rfl, (row_cell HBd_v3.out 1).1.trans rfl, (row_cell HBd_v3.out 2).1.trans rfl, (row_cell HBd_v3.out 3).1.trans rfl, (row_cell HBc_v3.out 0).1.trans rfl, (row_cell HBc_v3.out 1).1.trans rfl, (row_cell HBc_v3.out 2).1.trans rfl, (row_cell HBc_v3.out 3).1.trans rfl⟩ ?_
          rotate_left
          · (intro w hSw; (try dsimp only at hSw); go_simp) <;> with_reducible rfl
          try simp only [Act.put, List.setIfInBounds_toArray, List.set_cons_zero, List.set_cons_succ]
          refine skipD (i := 11) (d := some 187) _ rfl rfl (by kernel_rfl) (by kernel_rfl) (by kernel_rfl) (fun _ _ _ h => h) (by rfl) ⟨(row_cell HBd_v3.out 0).1.trans rfl, (row_cell HBd_v3.out 1).1.trans rfl, (row_cell HBd_v3.out 2).1.trans rfl, (row_cell HBd_v3.out 3).1.trans rfl, (row_cell HBc_v3.out 0).1.trans rfl, (row_cell HBc_v3.out 1).1.trans rfl, (row_cell HBc_v3.out 2).1.trans rfl, (row_cell HBc_v3.out 3).1.trans rfl⟩ ?_
          try simp only [Act.put, List.setIfInBounds_toArray, List.set_cons_zero, List.set_cons_succ]
          refine skipD (i := 12) (d := some 188) _ rfl rfl (by kernel_rfl) (by kernel_rfl) (by kernel_rfl) (fun _ _ _ h => h) (by rfl) ⟨(row_cell HBd_v3.out 0).1.trans rfl, (row_cell HBd_v3.out 1).1.trans rfl, (row_cell HBd_v3.out 2).1.trans rfl, (row_cell HBd_v3.out 3).1.trans rfl, (row_cell HBc_v3.out 0).1.trans rfl, (row_cell HBc_v3.out 1).1.trans rfl, (row_cell HBc_v3.out 2).1.trans rfl, (row_cell HBc_v3.out 3).1.trans rfl⟩ ?_
          try simp only [Act.put, List.setIfInBounds_toArray, List.set_cons_zero, List.set_cons_succ]
          refine skipD (i := 13) (d := some 189) _ rfl rfl (by kernel_rfl) (by kernel_rfl) (by kernel_rfl) (fun _ _ _ h => h) (by rfl) ⟨(row_cell HBd_v3.out 0).1.trans rfl, (row_cell HBd_v3.out 1).1.trans rfl, (row_cell HBd_v3.out 2).1.trans rfl, (row_cell HBd_v3.out 3).1.trans rfl, (row_cell HBc_v3.out 0).1.trans rfl, (row_cell HBc_v3.out 1).1.trans rfl, (row_cell HBc_v3.out 2).1.trans rfl, (row_cell HBc_v3.out 3).1.trans rfl⟩ ?_
          try simp only [Act.put, List.setIfInBounds_toArray, List.set_cons_zero, List.set_cons_succ]
          refine takeD (i := 14) (d := some 190) (v := ?_) _ rfl rfl (by kernel_rfl) (by kernel_rfl) (by kernel_rfl) (fun _ _ _ h => h) (by rfl) ?_ ⟨(row_cell HBd_v3.out 0).1.trans rfl, (row_cell HBd_v3.out 1).1.trans rfl, (row_cell HBd_v3.out 2).1.trans rfl, (row_cell HBd_v3.out 3).1.trans rfl, (row_cell HBc_v3.out 0).1.trans rfl, (row_cell HBc_v3.out 1).1.trans rfl, (row_cell HBc_v3.out 2).1.trans rfl, (row_cell HBc_v3.out 3).1.trans rfl⟩ ?_
          rotate_left
          · (intro w hSw; (try dsimp only at hSw); go_simp) <;> with_reducible rfl
          try simp only [Act.put, List.setIfInBounds_toArray, List.set_cons_zero, List.set_cons_succ]
          refine takeD (i := 15) (d := some 191) (v := ?_) _ rfl rfl (by kernel_rfl) (by kernel_rfl) (by kernel_rfl) (fun _ _ _ h => h) (by rfl) ?_ ⟨(row_cell HBd_v3.out 0).1.trans rfl, (row_cell HBd_v3.out 1).1.trans rfl, (row_cell HBd_v3.out 2).1.trans rfl, (row_cell HBd_v3.out 3).1.trans rfl, (row_cell HBc_v3.out 0).1.trans rfl, (row_cell HBc_v3.out 1).1.trans rfl, (row_cell HBc_v3.out 2).1.trans rfl, (row_cell HBc_v3.out 3).1.trans rfl⟩ ?_
          rotate_left
          · (intro w hSw; (try dsimp only at hSw); go_simp) <;> with_reducible rfl
          try simp only [Act.put, List.setIfInBounds_toArray, List.set_cons_zero, List.set_cons_succ]
          refine wpAnyH_done (by kernel_rfl) ?_ _
          go_wp2_with fail
          go_roundw
          case rel =>
            have Q : PyR lo Rb len w (.pointer (some ⟨cg, 0, none⟩)) (.int .i64 ((i : Int) + 1)) _ := ⟨⟨i + 1, cg, s, L, (.slice A1 n1 c1), HJ.out.1, HJ.out.2, by have := HLL.out; omega, rfl, by go_num, HPc_v3.out⟩⟩
            first | exact Q | ((repeat apply Exists.intro); exact ⟨Q, rfl⟩)
          case measure => have := HJ.out; simp [intOf]; omega
      have k0 : (kd == 0) = false := by simpa using h0
      have k2 : (kd == 2) = false := by simpa using h2
      have k3 : (kd == 3) = false := by simpa using h3
      clear h0 h2 h3
      go_wp2_with fail
      go_roundw
      case rel =>
        have Q : PyR lo Rb len w (.pointer (some ⟨g, 0, none⟩)) (.int .i64 ((i : Int) + 1)) _ := ⟨⟨i + 1, g, s, L, lv, HJ.out.1, HJ.out.2, by have := HLL.out; omega, rfl, by go_num, HP_V.out⟩⟩
        first | exact Q | ((repeat apply Exists.intro); exact ⟨Q, rfl⟩)
      case measure => have := HJ.out; simp [intOf]; omega
end Go.Proofs.Ytehbcoopggpmjaa.Bg
