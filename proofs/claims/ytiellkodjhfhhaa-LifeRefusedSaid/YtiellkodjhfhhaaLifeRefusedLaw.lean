/-
  LifeRefused's walk. Each statement bears its own conditions.
-/
import Derived.Test.YtiellkodjhfhhaaLfP
namespace Go.Proofs.Ytiellkodjhfhhaa.Lf
open Go.RowKit Go.Proofs.Ytiellkodjhfhhaa.F 
set_option linter.unusedVariables false
set_option linter.unusedSimpArgs false
structure AR1 (lo bw len : Nat) (n : Int) (w0 : World) (iv : Value) (wr : World) : Prop where
  ex : ∃ (j : Nat) (s : LS), j ≤ len ∧ iv = .int .i64 (j : Int) ∧ LP lo bw w0 wr lo s n
theorem LP.op {lo bw g : Nat} {w0 w w' : World} {s : LS} {f : Int} (h : LP lo bw w0 w g s f) (hv : LV w' g s) (hf : Fo (fun b => b = g) w w') : LP lo bw w0 w' g s f := ⟨hv, (hf.block bw h.blt (fun e => h.ne e.symm)).trans h.bx, h.ne, h.ll, h.be.trans (hf.below (fun b hb => by rw [hb]; exact h.ll.1) h.nil), h.hf⟩
structure AR3 (lo bw : Nat) (n : Int) (s : LS) (w0 : World) (av : Value) (wr : World) : Prop where
  ex : ∃ a : Int, 4 ≤ a ∧ a ≤ 7 ∧ av = .int .i64 a ∧ LP lo bw w0 wr lo s n
set_option maxRecDepth 100000 in
set_option maxHeartbeats 16000000 in
theorem refused_walk (a0 : Int) (a1 : Option Addr) (len cap : Nat) (zs : List Int) (oth : Int) (w : World) (h1 : IsRow .i64 w a1 len cap zs) : Calls Try.prog 8 #[.int .i64 a0, .slice a1 len cap, .int .i64 oth] w fun e w' => e = .returned (.bool true) ∧ Below w.heap.size w w' := by
  have HR := Lib.hid h1
  clear h1
  have he := he_li
  obtain ⟨lo, hlo⟩ : ∃ lo, w.heap.size = lo := ⟨_, rfl⟩
  have HLO := Lib.hid hlo
  obtain ⟨n, hn⟩ : ∃ x, (IntKind.u64.wrap a0).tmod 1001 = x := ⟨_, rfl⟩
  have b1 := u64_tmod a0 1001 (by decide)
  rw [hn] at b1
  have HNN : Hid (0 ≤ n ∧ n < 1001) := b1
  have v1 : IntKind.i64.wrap n = n := IntWalk.i64_in _ ⟨by omega, by omega⟩
  have NW := Lib.hid (new_any n w (by unfold newI; omega))
  rw [hlo] at NW ⊢
  clear hlo b1
  go_enter Try.func8, Try.ntmps8
  go_wp2_with fail
  refine NW.out.mono ?_
  rintro e w1 ⟨rfl, q1, b1⟩
  have Q1 : Hid (LV w1 lo ⟨1, n, 0⟩) := q1
  have B1 : Hid (Below lo w w1) := b1
  clear q1 b1 NW hn v1
  go_wp2_with fail
  refine (told_any w1).mono ?_
  rintro e w2 ⟨rfl, b2⟩
  have Q2 := Lib.hid (Q1.out.below b2)
  have B2 : Hid (Below lo w w2) := B1.out.trans (b2.mono (by have := Q1.out.lt; omega))
  clear b2 Q1 B1
  go_wp2_with fail
  refine (rnew_any n w2).mono ?_
  rintro e w3 ⟨rfl, b3⟩
  unfold RA
  have Q3 := Lib.hid (Q2.out.below b3)
  have B3 : Hid (Below lo w w3) := B2.out.trans (b3.mono (by have := Q2.out.lt; omega))
  clear b3 Q2 B2
  have hx : Below w3.heap.size w3 (w3.alloc (.cells #[.int .i64 0, .int .i64 0, .int .i64 0, .int .i64 0] 30)) := (Below.refl _ _).alloc (Nat.le_refl _) _
  have Q4 := Lib.hid (Q3.out.below hx)
  have HZ : Hid ((w3.alloc (.cells #[.int .i64 0, .int .i64 0, .int .i64 0, .int .i64 0] 30)).heap[w3.heap.size]? = some (.cells #[.int .i64 0, .int .i64 0, .int .i64 0, .int .i64 0] 30 (0, 0))) := heap_alloc_new _ _
  have B4 : Hid (Below lo w (w3.alloc (.cells #[.int .i64 0, .int .i64 0, .int .i64 0, .int .i64 0] 30))) := B3.out.trans (hx.mono (by have := Q3.out.lt; omega))
  have HNE : Hid (lo ≠ w3.heap.size ∧ lo ≤ w3.heap.size) := by have := Q3.out.lt; unfold Hid; omega
  obtain ⟨bw, hbw⟩ : ∃ b, w3.heap.size = b := ⟨_, rfl⟩
  obtain ⟨w4, hw4⟩ : ∃ W, w3.alloc (.cells #[.int .i64 0, .int .i64 0, .int .i64 0, .int .i64 0] 30) = W := ⟨_, rfl⟩
  rw [hbw] at HNE HZ
  rw [hw4] at HZ B4 Q4
  have z0 : w4.cell? ⟨bw, 0, none⟩ = some (.int .i64 0) := by rw [(row_cell HZ.out 0).1]; rfl
  have zz0 : w4.frozen? ⟨bw, 0, none⟩ = false := (row_cell HZ.out 0).2
  have z1 : w4.cell? ⟨bw, 1, none⟩ = some (.int .i64 0) := by rw [(row_cell HZ.out 1).1]; rfl
  have zz1 : w4.frozen? ⟨bw, 1, none⟩ = false := (row_cell HZ.out 1).2
  have z2 : w4.cell? ⟨bw, 2, none⟩ = some (.int .i64 0) := by rw [(row_cell HZ.out 2).1]; rfl
  have zz2 : w4.frozen? ⟨bw, 2, none⟩ = false := (row_cell HZ.out 2).2
  have z3 : w4.cell? ⟨bw, 3, none⟩ = some (.int .i64 0) := by rw [(row_cell HZ.out 3).1]; rfl
  have zz3 : w4.frozen? ⟨bw, 3, none⟩ = false := (row_cell HZ.out 3).2
  have P5 : Hid (LP lo bw w ((((w4.setCell ⟨bw, 0, none⟩ (.int .i64 (LS.mode ⟨1, n, 0⟩))).setCell ⟨bw, 1, none⟩ (.int .i64 (LS.starts ⟨1, n, 0⟩))).setCell ⟨bw, 2, none⟩ (.int .i64 (LS.left ⟨1, n, 0⟩))).setCell ⟨bw, 3, none⟩ (.int .i64 n)) lo ⟨1, n, 0⟩ n) := by
    have B := box4 HZ.out (.int .i64 (LS.mode ⟨1, n, 0⟩)) (.int .i64 (LS.starts ⟨1, n, 0⟩)) (.int .i64 (LS.left ⟨1, n, 0⟩)) (.int .i64 n)
    exact ⟨Q4.out.fo B.2 HNE.out.1, B.1, HNE.out.1, ⟨Nat.le_refl _, HNE.out.2⟩, B4.out.trans (B.2.below (fun b hb => by rw [hb]; exact HNE.out.2) (by have := Q4.out.lt; omega)), by simp⟩
  obtain ⟨w5, hw5⟩ : ∃ W, ((((w4.setCell ⟨bw, 0, none⟩ (.int .i64 (LS.mode ⟨1, n, 0⟩))).setCell ⟨bw, 1, none⟩ (.int .i64 (LS.starts ⟨1, n, 0⟩))).setCell ⟨bw, 2, none⟩ (.int .i64 (LS.left ⟨1, n, 0⟩))).setCell ⟨bw, 3, none⟩ (.int .i64 n)) = W := ⟨_, rfl⟩
  rw [hw5] at P5
  clear hx Q3 B3 Q4 B4 HZ HNE
  go_upto_block 0 with fail
  clear hw5 hbw hw4 z0 zz0 z1 zz1 z2 zz2 z3 zz3
  go_cut [11] (fun ix wx => ∃ s, LP lo bw w wx lo s n)
  case first =>
    go_wp2_with fail
    go_loopw [11] (fun iv wr => AR1 lo bw len n w iv wr) (fun i _ => len - (intOf i).toNat)
    case atStart => exact ⟨⟨0, _, Nat.zero_le _, rfl, P5.out⟩⟩
    case round =>
      clear P5
      obtain ⟨⟨j, s, hj, rfl, hlp⟩⟩ := hrel
      have HLPH := Lib.hid hlp
      clear hlp
      by_cases hlt : j < len
      rotate_left
      · have hjI : ¬ (j : Int) < (len : Int) := by omega
        have g0 : decide ((j : Int) < (len : Int)) = false := by simp; omega
        clear hlt hj
        go_wp2_with fail
        go_meet
        exact ⟨s, HLPH.out⟩
      by_cases h150 : j < 60
      rotate_left
      · have hjI : (j : Int) < (len : Int) := by omega
        have hcI : ¬ (j : Int) < 60 := by omega
        have g0 : decide ((j : Int) < (len : Int)) = true := by simp; omega
        have g3 : decide ((j : Int) < 60) = false := by simp; omega
        clear hlt hj h150
        go_wp2_with fail
        go_meet
        exact ⟨s, HLPH.out⟩
      have g0 : decide ((j : Int) < (len : Int)) = true := by simp; omega
      have g3 : decide ((j : Int) < 60) = true := by simp; omega
      have hjI : (j : Int) < (len : Int) := by omega
      have hcI : (j : Int) < 60 := by omega
      have HX : Hid (j < len) := hlt
      obtain ⟨b, off, hA, hc⟩ := row_at HR.out (show 0 < len by omega)
      subst hA
      obtain ⟨z, hz⟩ : ∃ x, zs.getD j 0 = x := ⟨_, rfl⟩
      have hc0 := (hc j hlt).1
      rw [hz] at hc0
      have HBL : Hid (b < lo) := by unfold Hid; rw [← HLO.out]; exact World.block_lt_of_cell? _ _ hc0
      have c0 : wr.cell? ⟨b, off + j, none⟩ = some (.int .i64 z) := (HLPH.out.be.cell (by show b < lo; exact HBL.out)).trans hc0
      clear hc hc0 hz hlt hj h150
      go_upto_region 9 with fail
      have hD : Below wr.heap.size wr wr.drew := (Below.refl _ _).drew
      have P_Y : Hid (LV wr.drew lo s) := HLPH.out.lv.below hD
      have X_Y : Hid (wr.drew.heap[bw]? = some (.cells #[.int .i64 s.mode, .int .i64 s.starts, .int .i64 s.left, .int .i64 n] 30 (0, 0))) := HLPH.out.bx
      have B_Y : Hid (Below lo w wr.drew) := HLPH.out.be.trans (hD.mono HLPH.out.nil)
      have F_Y : Hid (Fo (fun b => b = lo ∨ b = bw) wr wr.drew) := (Fo.refl _ wr).drew
      have cD : wr.drew.cell? ⟨b, off + j, none⟩ = some (.int .i64 z) := c0
      refine wp_region_held_drew (S := (fun w' => w'.cell? ⟨b, off + j, none⟩ = some (.int .i64 z))) (by kernel_rfl) cD (fun hHeld => ?_)
      clear hD c0 cD
      obtain ⟨Y, hY⟩ : ∃ W, wr.drew = W := ⟨_, rfl⟩
      rw [hY] at hHeld P_Y X_Y B_Y F_Y
      rw [hY]
      clear hY
      have x0 : Y.cell? ⟨bw, 0, none⟩ = some (.int .i64 s.mode) := by rw [(row_cell X_Y.out 0).1]; rfl
      have x1 : Y.cell? ⟨bw, 1, none⟩ = some (.int .i64 s.starts) := by rw [(row_cell X_Y.out 1).1]; rfl
      have x2 : Y.cell? ⟨bw, 2, none⟩ = some (.int .i64 s.left) := by rw [(row_cell X_Y.out 2).1]; rfl
      have x3 : Y.cell? ⟨bw, 3, none⟩ = some (.int .i64 n) := by rw [(row_cell X_Y.out 3).1]; rfl
      refine takeD (i := 0) (d := some 47) (v := ?_) _ rfl rfl (by kernel_rfl) (by kernel_rfl) (by kernel_rfl) (fun _ _ _ h => h) (by rfl) ?_ (by assumption) ?_
      rotate_left
      · (intro w hSw; (try dsimp only at hSw); go_simp) <;> with_reducible rfl
      try simp only [Act.put, List.setIfInBounds_toArray, List.set_cons_zero, List.set_cons_succ]
      refine takeD (i := 2) (d := some 49) (v := ?_) _ rfl rfl (by kernel_rfl) (by kernel_rfl) (by kernel_rfl) (fun _ _ _ h => h) (by rfl) ?_ (by assumption) ?_
      rotate_left
      · (intro w hSw; (try dsimp only at hSw); go_simp) <;> with_reducible rfl
      try simp only [Act.put, List.setIfInBounds_toArray, List.set_cons_zero, List.set_cons_succ]
      refine takeD (i := 3) (d := some 50) (v := ?_) _ rfl rfl (by kernel_rfl) (by kernel_rfl) (by kernel_rfl) (fun _ _ _ h => h) (by rfl) ?_ (by assumption) ?_
      rotate_left
      · (intro w hSw; (try dsimp only at hSw); go_simp) <;> with_reducible rfl
      try simp only [Act.put, List.setIfInBounds_toArray, List.set_cons_zero, List.set_cons_succ]
      refine takeD (i := 4) (d := some 51) (v := ?_) _ rfl rfl (by kernel_rfl) (by kernel_rfl) (by kernel_rfl) (fun _ _ _ h => h) (by rfl) ?_ (by assumption) ?_
      rotate_left
      · (intro w hSw; (try dsimp only at hSw); go_simp) <;> with_reducible rfl
      try simp only [Act.put, List.setIfInBounds_toArray, List.set_cons_zero, List.set_cons_succ]
      refine takeD (i := 5) (d := some 52) (v := ?_) _ rfl rfl (by kernel_rfl) (by kernel_rfl) (by kernel_rfl) (fun _ _ _ h => h) (by rfl) ?_ (by assumption) ?_
      rotate_left
      · (intro w hSw; (try dsimp only at hSw); go_simp) <;> with_reducible rfl
      try simp only [Act.put, List.setIfInBounds_toArray, List.set_cons_zero, List.set_cons_succ]
      refine wpAnyH_ready (rs := [1]) (by kernel_rfl) (by simp) ?_
      refine AllReadyH.cons rfl (fun K0 hK => ?_) AllReadyH.nil
      try go_simp
      refine hK.out _ _ hHeld (fun hHeld => ?_)
      clear hK K0
      try simp only [Act.put, List.setIfInBounds_toArray, List.set_cons_zero, List.set_cons_succ]
      refine wpAnyH_ready (rs := [6]) (by kernel_rfl) (by simp) ?_
      refine AllReadyH.cons rfl (fun K0 hK => ?_) AllReadyH.nil
      try go_simp
      go_at_call 12
      refine (ldo_any lo s n z Y P_Y.out HLPH.out.hf).mono ?_
      rintro e w5 ⟨rfl, q1, f1⟩
      unfold RA
      have P5 := Lib.hid q1
      have X5 : Hid (w5.heap[bw]? = some (.cells #[.int .i64 s.mode, .int .i64 s.starts, .int .i64 s.left, .int .i64 n] 30 (0, 0))) := (f1.block bw (Array.getElem?_eq_some_iff.1 X_Y.out).1 (fun e => HLPH.out.ne e.symm)).trans X_Y.out
      have B5 : Hid (Below lo w w5) := B_Y.out.trans (f1.below (fun b hb => by rw [hb]; exact HLPH.out.ll.1) (by have := P_Y.out.lt; have := HLPH.out.ll.1; omega))
      have F5 : Hid (Fo (fun b => b = lo ∨ b = bw) wr w5) := F_Y.out.trans f1 (fun i hi => .inl (.inl hi))
      have kp := (f1.cell (fun e => by have h6 : b = lo := e; have := HBL.out; have := HLPH.out.ll.1; omega) hHeld : w5.cell? ⟨b, off + j, none⟩ = some (.int .i64 z))
      clear q1 f1 x0 x1 x2 x3 P_Y X_Y B_Y F_Y
      try go_wp2_with fail
      refine hK.out _ _ kp (fun hHeld => ?_)
      clear kp
      clear hK K0
      try simp only [Act.put, List.setIfInBounds_toArray, List.set_cons_zero, List.set_cons_succ]
      refine takeD (i := 7) (d := some 46) (v := ?_) _ rfl rfl (by kernel_rfl) (by kernel_rfl) (by kernel_rfl) (fun _ _ _ h => h) (by rfl) ?_ (by assumption) ?_
      rotate_left
      · (intro w hSw; (try dsimp only at hSw); go_simp) <;> with_reducible rfl
      try simp only [Act.put, List.setIfInBounds_toArray, List.set_cons_zero, List.set_cons_succ]
      refine takeD (i := 8) (d := some 54) (v := ?_) _ rfl rfl (by kernel_rfl) (by kernel_rfl) (by kernel_rfl) (fun _ _ _ h => h) (by rfl) ?_ (by assumption) ?_
      rotate_left
      · (intro w hSw; (try dsimp only at hSw); go_simp) <;> with_reducible rfl
      try simp only [Act.put, List.setIfInBounds_toArray, List.set_cons_zero, List.set_cons_succ]
      refine takeD (i := 9) (d := some 55) (v := ?_) _ rfl rfl (by kernel_rfl) (by kernel_rfl) (by kernel_rfl) (fun _ _ _ h => h) (by rfl) ?_ (by assumption) ?_
      rotate_left
      · (intro w hSw; (try dsimp only at hSw); go_simp) <;> with_reducible rfl
      try simp only [Act.put, List.setIfInBounds_toArray, List.set_cons_zero, List.set_cons_succ]
      have x0 : w5.cell? ⟨bw, 0, none⟩ = some (.int .i64 s.mode) := by rw [(row_cell X5.out 0).1]; rfl
      have xz0 : w5.frozen? ⟨bw, 0, none⟩ = false := (row_cell X5.out 0).2
      have x1 : w5.cell? ⟨bw, 1, none⟩ = some (.int .i64 s.starts) := by rw [(row_cell X5.out 1).1]; rfl
      have xz1 : w5.frozen? ⟨bw, 1, none⟩ = false := (row_cell X5.out 1).2
      have x2 : w5.cell? ⟨bw, 2, none⟩ = some (.int .i64 s.left) := by rw [(row_cell X5.out 2).1]; rfl
      have xz2 : w5.frozen? ⟨bw, 2, none⟩ = false := (row_cell X5.out 2).2
      have x3 : w5.cell? ⟨bw, 3, none⟩ = some (.int .i64 n) := by rw [(row_cell X5.out 3).1]; rfl
      have xz3 : w5.frozen? ⟨bw, 3, none⟩ = false := (row_cell X5.out 3).2
      have BZ := box4 X5.out (.int .i64 (actS s z).mode) (.int .i64 (actS s z).starts) (.int .i64 (actS s z).left) (.int .i64 n)
      have kp := (BZ.2.cell (fun e => by have h6 : b = bw := e; have := HBL.out; have := HLPH.out.ll.2; omega) hHeld : ((((w5.setCell ⟨bw, 0, none⟩ (.int .i64 (actS s z).mode)).setCell ⟨bw, 1, none⟩ (.int .i64 (actS s z).starts)).setCell ⟨bw, 2, none⟩ (.int .i64 (actS s z).left)).setCell ⟨bw, 3, none⟩ (.int .i64 n)).cell? ⟨b, off + j, none⟩ = some (.int .i64 z))
      have P7 := Lib.hid (LP.put HLPH.out P5.out X5.out B5.out (actS_sum HLPH.out.hf z))
      have F7 : Hid (Fo (fun b => b = lo ∨ b = bw) wr ((((w5.setCell ⟨bw, 0, none⟩ (.int .i64 (actS s z).mode)).setCell ⟨bw, 1, none⟩ (.int .i64 (actS s z).starts)).setCell ⟨bw, 2, none⟩ (.int .i64 (actS s z).left)).setCell ⟨bw, 3, none⟩ (.int .i64 n))) := F5.out.trans BZ.2 (fun i hi => .inl (.inr hi))
      clear BZ
      refine wpAnyH_ready (rs := [10]) (by kernel_rfl) (by simp) ?_
      refine AllReadyH.cons rfl (fun K0 hK => ?_) AllReadyH.nil
      try go_simp
      refine hK.out _ _ kp (fun hHeld => ?_)
      clear kp
      clear hK K0
      try simp only [Act.put, List.setIfInBounds_toArray, List.set_cons_zero, List.set_cons_succ]
      refine wpAnyH_done (by kernel_rfl) ?_ _
      clear hHeld x0 xz0 x1 xz1 x2 xz2 x3 xz3 P5 X5 B5 F5
      obtain ⟨w7, hw7⟩ : ∃ W, ((((w5.setCell ⟨bw, 0, none⟩ (.int .i64 (actS s z).mode)).setCell ⟨bw, 1, none⟩ (.int .i64 (actS s z).starts)).setCell ⟨bw, 2, none⟩ (.int .i64 (actS s z).left)).setCell ⟨bw, 3, none⟩ (.int .i64 n)) = W := ⟨_, rfl⟩
      rw [hw7] at P7 F7
      rw [hw7]
      clear hw7
      clear F7
      go_wp2_with fail
      go_roundw
      case rel =>
        have Q : AR1 lo bw len n w (.int .i64 ((j : Int) + 1)) w7 := ⟨⟨j + 1, actS s z, HX.out, by go_num, P7.out⟩⟩
        first | exact Q | ((repeat apply Exists.intro); exact ⟨Q, rfl⟩)
      case measure => have := HX.out; simp [intOf]; omega
  case rest =>
    obtain ⟨w8, hw8⟩ : ∃ w', w' = wc := ⟨_, rfl⟩
    subst hw8
    obtain ⟨s, hs⟩ := hcut
    have P8 := Lib.hid hs
    clear hs P5
    by_cases h4 : oth < 4
    · have g4 : decide (oth < 4) = true := by simpa using h4
      have FA : Hid (doS s oth = s ∧ doA s oth = false ∧ doE s oth = 1) := do_bad (by unfold actI; omega)
      go_wp2_with fail
      refine (do_any lo s oth w8 P8.out.lv).mono ?_
      rw [FA.out.1, FA.out.2.1, FA.out.2.2]
      rintro e w9 ⟨rfl, q9, f9⟩
      have P9 := Lib.hid (P8.out.op q9 f9)
      clear q9 f9
      obtain ⟨r0, r1, r2, r3⟩ := P9.out.box
      go_wp2_with fail
      refine (lsame_any lo s n w9 P9.out.lv).mono ?_
      rintro e w10 ⟨rfl, b10⟩
      have P10 := Lib.hid (P9.out.below b10)
      clear b10 P9 r0 r1 r2 r3
      obtain ⟨m0, m1, m2, m3⟩ := P10.out.box
      obtain ⟨zb, hzb⟩ : ∃ b, (s.mode == 0) = b := ⟨_, rfl⟩
      go_upto_if 82 with fail
      go_cut [15] (fun ax wx => LP lo bw w wx lo s n)
      case first =>
        cases zb
        · go_wp2_with fail
          go_meet
          exact P10.out
        have H0 : Hid (s.mode = 0) := by unfold Hid; simpa using hzb
        clear hzb
        go_wp2_with fail
        go_loopw [15] (fun av wr => AR3 lo bw n s w av wr) (fun a _ => 7 - (intOf a).toNat)
        case atStart => exact ⟨⟨4, by omega, by omega, rfl, P10.out⟩⟩
        case round =>
          clear P10 m0 m1 m2 m3
          obtain ⟨⟨a, ha4, ha7, rfl, hlp⟩⟩ := hrel
          have PR := Lib.hid hlp
          clear hlp
          by_cases h6 : a ≤ 6
          rotate_left
          · have g6 : decide (a ≤ 6) = false := by simpa using h6
            clear ha4 ha7
            go_wp2_with fail
            go_meet
            exact PR.out
          have FA : Hid (doS s a = s ∧ doA s a = false ∧ doE s a = 19) := do_idle (by unfold actI; omega) H0.out
          have HA : Hid (4 ≤ a ∧ a ≤ 6) := ⟨ha4, h6⟩
          have g6 : decide (a ≤ 6) = true := by simpa using h6
          go_wp2_with fail
          refine (do_any lo s a wr PR.out.lv).mono ?_
          rw [FA.out.1, FA.out.2.1, FA.out.2.2]
          rintro e w12 ⟨rfl, q12, f12⟩
          have P12 := Lib.hid (PR.out.op q12 f12)
          clear q12 f12
          obtain ⟨r0, r1, r2, r3⟩ := P12.out.box
          go_wp2_with fail
          refine (lsame_any lo s n w12 P12.out.lv).mono ?_
          rintro e w13 ⟨rfl, b13⟩
          have P13 := Lib.hid (P12.out.below b13)
          clear b13 P12 r0 r1 r2 r3
          go_wp2_with fail
          go_roundw
          case rel =>
            have Q : AR3 lo bw n s w (.int .i64 (a + 1)) w13 := ⟨⟨a + 1, by have := HA.out; omega, by have := HA.out; omega, rfl, P13.out⟩⟩
            first | exact Q | ((repeat apply Exists.intro); exact ⟨Q, rfl⟩)
          case measure => have := HA.out; simp [intOf]; omega
      case rest =>
        obtain ⟨w14, hw14⟩ : ∃ w', w' = wc := ⟨_, rfl⟩
        subst hw14
        have P14 := Lib.hid hcut
        clear hcut P10 m0 m1 m2 m3 hzb
        obtain ⟨k0, k1, k2, k3⟩ := P14.out.box
        by_cases hk : s.mode = 1 ∨ s.mode = 2
        · have g0 : (s.mode == 0) = false := by simp; omega
          have g3 : (s.mode == 3) = false := by simp; omega
          clear hk
          go_wp2_with fail
          go_ret
          exact ⟨rfl, P14.out.be⟩
        have FR : Hid (runS s = s ∧ runE s = 19) := ⟨if_neg hk, if_neg hk⟩
        have CR := Lib.hid (run_any lo s w14 P14.out.lv)
        rw [FR.out.1, FR.out.2] at CR
        by_cases h0 : s.mode = 0
        · have g0 : (s.mode == 0) = true := by simpa using h0
          clear hk h0
          go_wp2_with fail
          refine CR.out.mono ?_
          rintro e w15 ⟨rfl, q15, f15⟩
          have P15 := Lib.hid (P14.out.op q15 f15)
          clear q15 f15 P14 k0 k1 k2 k3 CR
          obtain ⟨r0, r1, r2, r3⟩ := P15.out.box
          go_wp2_with fail
          refine (lsame_any lo s n w15 P15.out.lv).mono ?_
          rintro e w16 ⟨rfl, b16⟩
          have P16 := Lib.hid (P15.out.below b16)
          clear b16 P15 r0 r1 r2 r3
          go_wp2_with fail
          go_ret
          exact ⟨rfl, P16.out.be⟩
        · have g0 : (s.mode == 0) = false := by simpa using h0
          have g3 : (s.mode == 3) = true := by have h1 := P14.out.lv.ok.m0; have h2 := P14.out.lv.ok.m3; simp; omega
          clear hk h0
          go_wp2_with fail
          refine CR.out.mono ?_
          rintro e w15 ⟨rfl, q15, f15⟩
          have P15 := Lib.hid (P14.out.op q15 f15)
          clear q15 f15 P14 k0 k1 k2 k3 CR
          obtain ⟨r0, r1, r2, r3⟩ := P15.out.box
          go_wp2_with fail
          refine (lsame_any lo s n w15 P15.out.lv).mono ?_
          rintro e w16 ⟨rfl, b16⟩
          have P16 := Lib.hid (P15.out.below b16)
          clear b16 P15 r0 r1 r2 r3
          go_wp2_with fail
          go_ret
          exact ⟨rfl, P16.out.be⟩
    by_cases h6 : 6 < oth
    · have g4 : decide (oth < 4) = false := by simpa using h4
      have g6 : decide (6 < oth) = true := by simpa using h6
      have FA : Hid (doS s oth = s ∧ doA s oth = false ∧ doE s oth = 1) := do_bad (by unfold actI; omega)
      go_wp2_with fail
      refine (do_any lo s oth w8 P8.out.lv).mono ?_
      rw [FA.out.1, FA.out.2.1, FA.out.2.2]
      rintro e w9 ⟨rfl, q9, f9⟩
      have P9 := Lib.hid (P8.out.op q9 f9)
      clear q9 f9
      obtain ⟨r0, r1, r2, r3⟩ := P9.out.box
      go_wp2_with fail
      refine (lsame_any lo s n w9 P9.out.lv).mono ?_
      rintro e w10 ⟨rfl, b10⟩
      have P10 := Lib.hid (P9.out.below b10)
      clear b10 P9 r0 r1 r2 r3
      obtain ⟨m0, m1, m2, m3⟩ := P10.out.box
      obtain ⟨zb, hzb⟩ : ∃ b, (s.mode == 0) = b := ⟨_, rfl⟩
      go_upto_if 82 with fail
      go_cut [15] (fun ax wx => LP lo bw w wx lo s n)
      case first =>
        cases zb
        · go_wp2_with fail
          go_meet
          exact P10.out
        have H0 : Hid (s.mode = 0) := by unfold Hid; simpa using hzb
        clear hzb
        go_wp2_with fail
        go_loopw [15] (fun av wr => AR3 lo bw n s w av wr) (fun a _ => 7 - (intOf a).toNat)
        case atStart => exact ⟨⟨4, by omega, by omega, rfl, P10.out⟩⟩
        case round =>
          clear P10 m0 m1 m2 m3
          obtain ⟨⟨a, ha4, ha7, rfl, hlp⟩⟩ := hrel
          have PR := Lib.hid hlp
          clear hlp
          by_cases h6 : a ≤ 6
          rotate_left
          · have g6 : decide (a ≤ 6) = false := by simpa using h6
            clear ha4 ha7
            go_wp2_with fail
            go_meet
            exact PR.out
          have FA : Hid (doS s a = s ∧ doA s a = false ∧ doE s a = 19) := do_idle (by unfold actI; omega) H0.out
          have HA : Hid (4 ≤ a ∧ a ≤ 6) := ⟨ha4, h6⟩
          have g6 : decide (a ≤ 6) = true := by simpa using h6
          go_wp2_with fail
          refine (do_any lo s a wr PR.out.lv).mono ?_
          rw [FA.out.1, FA.out.2.1, FA.out.2.2]
          rintro e w12 ⟨rfl, q12, f12⟩
          have P12 := Lib.hid (PR.out.op q12 f12)
          clear q12 f12
          obtain ⟨r0, r1, r2, r3⟩ := P12.out.box
          go_wp2_with fail
          refine (lsame_any lo s n w12 P12.out.lv).mono ?_
          rintro e w13 ⟨rfl, b13⟩
          have P13 := Lib.hid (P12.out.below b13)
          clear b13 P12 r0 r1 r2 r3
          go_wp2_with fail
          go_roundw
          case rel =>
            have Q : AR3 lo bw n s w (.int .i64 (a + 1)) w13 := ⟨⟨a + 1, by have := HA.out; omega, by have := HA.out; omega, rfl, P13.out⟩⟩
            first | exact Q | ((repeat apply Exists.intro); exact ⟨Q, rfl⟩)
          case measure => have := HA.out; simp [intOf]; omega
      case rest =>
        obtain ⟨w14, hw14⟩ : ∃ w', w' = wc := ⟨_, rfl⟩
        subst hw14
        have P14 := Lib.hid hcut
        clear hcut P10 m0 m1 m2 m3 hzb
        obtain ⟨k0, k1, k2, k3⟩ := P14.out.box
        by_cases hk : s.mode = 1 ∨ s.mode = 2
        · have g0 : (s.mode == 0) = false := by simp; omega
          have g3 : (s.mode == 3) = false := by simp; omega
          clear hk
          go_wp2_with fail
          go_ret
          exact ⟨rfl, P14.out.be⟩
        have FR : Hid (runS s = s ∧ runE s = 19) := ⟨if_neg hk, if_neg hk⟩
        have CR := Lib.hid (run_any lo s w14 P14.out.lv)
        rw [FR.out.1, FR.out.2] at CR
        by_cases h0 : s.mode = 0
        · have g0 : (s.mode == 0) = true := by simpa using h0
          clear hk h0
          go_wp2_with fail
          refine CR.out.mono ?_
          rintro e w15 ⟨rfl, q15, f15⟩
          have P15 := Lib.hid (P14.out.op q15 f15)
          clear q15 f15 P14 k0 k1 k2 k3 CR
          obtain ⟨r0, r1, r2, r3⟩ := P15.out.box
          go_wp2_with fail
          refine (lsame_any lo s n w15 P15.out.lv).mono ?_
          rintro e w16 ⟨rfl, b16⟩
          have P16 := Lib.hid (P15.out.below b16)
          clear b16 P15 r0 r1 r2 r3
          go_wp2_with fail
          go_ret
          exact ⟨rfl, P16.out.be⟩
        · have g0 : (s.mode == 0) = false := by simpa using h0
          have g3 : (s.mode == 3) = true := by have h1 := P14.out.lv.ok.m0; have h2 := P14.out.lv.ok.m3; simp; omega
          clear hk h0
          go_wp2_with fail
          refine CR.out.mono ?_
          rintro e w15 ⟨rfl, q15, f15⟩
          have P15 := Lib.hid (P14.out.op q15 f15)
          clear q15 f15 P14 k0 k1 k2 k3 CR
          obtain ⟨r0, r1, r2, r3⟩ := P15.out.box
          go_wp2_with fail
          refine (lsame_any lo s n w15 P15.out.lv).mono ?_
          rintro e w16 ⟨rfl, b16⟩
          have P16 := Lib.hid (P15.out.below b16)
          clear b16 P15 r0 r1 r2 r3
          go_wp2_with fail
          go_ret
          exact ⟨rfl, P16.out.be⟩
    · have g4 : decide (oth < 4) = false := by simpa using h4
      have g6 : decide (6 < oth) = false := by simpa using h6
      obtain ⟨m0, m1, m2, m3⟩ := P8.out.box
      obtain ⟨zb, hzb⟩ : ∃ b, (s.mode == 0) = b := ⟨_, rfl⟩
      go_upto_if 82 with fail
      go_cut [15] (fun ax wx => LP lo bw w wx lo s n)
      case first =>
        cases zb
        · go_wp2_with fail
          go_meet
          exact P8.out
        have H0 : Hid (s.mode = 0) := by unfold Hid; simpa using hzb
        clear hzb
        go_wp2_with fail
        go_loopw [15] (fun av wr => AR3 lo bw n s w av wr) (fun a _ => 7 - (intOf a).toNat)
        case atStart => exact ⟨⟨4, by omega, by omega, rfl, P8.out⟩⟩
        case round =>
          clear P8 m0 m1 m2 m3
          obtain ⟨⟨a, ha4, ha7, rfl, hlp⟩⟩ := hrel
          have PR := Lib.hid hlp
          clear hlp
          by_cases h6 : a ≤ 6
          rotate_left
          · have g6 : decide (a ≤ 6) = false := by simpa using h6
            clear ha4 ha7
            go_wp2_with fail
            go_meet
            exact PR.out
          have FA : Hid (doS s a = s ∧ doA s a = false ∧ doE s a = 19) := do_idle (by unfold actI; omega) H0.out
          have HA : Hid (4 ≤ a ∧ a ≤ 6) := ⟨ha4, h6⟩
          have g6 : decide (a ≤ 6) = true := by simpa using h6
          go_wp2_with fail
          refine (do_any lo s a wr PR.out.lv).mono ?_
          rw [FA.out.1, FA.out.2.1, FA.out.2.2]
          rintro e w12 ⟨rfl, q12, f12⟩
          have P12 := Lib.hid (PR.out.op q12 f12)
          clear q12 f12
          obtain ⟨r0, r1, r2, r3⟩ := P12.out.box
          go_wp2_with fail
          refine (lsame_any lo s n w12 P12.out.lv).mono ?_
          rintro e w13 ⟨rfl, b13⟩
          have P13 := Lib.hid (P12.out.below b13)
          clear b13 P12 r0 r1 r2 r3
          go_wp2_with fail
          go_roundw
          case rel =>
            have Q : AR3 lo bw n s w (.int .i64 (a + 1)) w13 := ⟨⟨a + 1, by have := HA.out; omega, by have := HA.out; omega, rfl, P13.out⟩⟩
            first | exact Q | ((repeat apply Exists.intro); exact ⟨Q, rfl⟩)
          case measure => have := HA.out; simp [intOf]; omega
      case rest =>
        obtain ⟨w14, hw14⟩ : ∃ w', w' = wc := ⟨_, rfl⟩
        subst hw14
        have P14 := Lib.hid hcut
        clear hcut P8 m0 m1 m2 m3 hzb
        obtain ⟨k0, k1, k2, k3⟩ := P14.out.box
        by_cases hk : s.mode = 1 ∨ s.mode = 2
        · have g0 : (s.mode == 0) = false := by simp; omega
          have g3 : (s.mode == 3) = false := by simp; omega
          clear hk
          go_wp2_with fail
          go_ret
          exact ⟨rfl, P14.out.be⟩
        have FR : Hid (runS s = s ∧ runE s = 19) := ⟨if_neg hk, if_neg hk⟩
        have CR := Lib.hid (run_any lo s w14 P14.out.lv)
        rw [FR.out.1, FR.out.2] at CR
        by_cases h0 : s.mode = 0
        · have g0 : (s.mode == 0) = true := by simpa using h0
          clear hk h0
          go_wp2_with fail
          refine CR.out.mono ?_
          rintro e w15 ⟨rfl, q15, f15⟩
          have P15 := Lib.hid (P14.out.op q15 f15)
          clear q15 f15 P14 k0 k1 k2 k3 CR
          obtain ⟨r0, r1, r2, r3⟩ := P15.out.box
          go_wp2_with fail
          refine (lsame_any lo s n w15 P15.out.lv).mono ?_
          rintro e w16 ⟨rfl, b16⟩
          have P16 := Lib.hid (P15.out.below b16)
          clear b16 P15 r0 r1 r2 r3
          go_wp2_with fail
          go_ret
          exact ⟨rfl, P16.out.be⟩
        · have g0 : (s.mode == 0) = false := by simpa using h0
          have g3 : (s.mode == 3) = true := by have h1 := P14.out.lv.ok.m0; have h2 := P14.out.lv.ok.m3; simp; omega
          clear hk h0
          go_wp2_with fail
          refine CR.out.mono ?_
          rintro e w15 ⟨rfl, q15, f15⟩
          have P15 := Lib.hid (P14.out.op q15 f15)
          clear q15 f15 P14 k0 k1 k2 k3 CR
          obtain ⟨r0, r1, r2, r3⟩ := P15.out.box
          go_wp2_with fail
          refine (lsame_any lo s n w15 P15.out.lv).mono ?_
          rintro e w16 ⟨rfl, b16⟩
          have P16 := Lib.hid (P15.out.below b16)
          clear b16 P15 r0 r1 r2 r3
          go_wp2_with fail
          go_ret
          exact ⟨rfl, P16.out.be⟩
end Go.Proofs.Ytiellkodjhfhhaa.Lf
