/-
  LifeActs' walk. Each statement bears its own conditions.
-/
import Derived.Test.YtiellkodjhfhhaaLfP
namespace Go.Proofs.Ytiellkodjhfhhaa.Lf
open Go.RowKit Go.Proofs.Ytiellkodjhfhhaa.F 
set_option linter.unusedVariables false
set_option linter.unusedSimpArgs false
structure AR (lo bw len : Nat) (n : Int) (w0 : World) (iv : Value) (wr : World) : Prop where
  ex : ∃ (j : Nat) (s : LS), j ≤ len ∧ iv = .int .i64 (j : Int) ∧ LP lo bw w0 wr lo s n
set_option maxRecDepth 100000 in
set_option maxHeartbeats 8000000 in
theorem acts_walk (a0 : Int) (a1 : Option Addr) (len cap : Nat) (zs : List Int) (w : World) (h1 : IsRow .i64 w a1 len cap zs) : Calls Try.prog 3 #[.int .i64 a0, .slice a1 len cap] w fun e w' => e = .returned (.bool true) ∧ Below w.heap.size w w' := by
  have HR := Lib.hid h1
  clear h1
  have he := he_li
  obtain ⟨lo, hlo⟩ : ∃ lo, w.heap.size = lo := ⟨_, rfl⟩
  have HLO := Lib.hid hlo
  obtain ⟨n, hn⟩ : ∃ x, (IntKind.u64.wrap a0).tmod 1001 = x := ⟨_, rfl⟩
  have b1 := u64_tmod a0 1001 (by decide)
  rw [hn] at b1
  have HNN : Hid (0 ≤ n ∧ n < 1001) := b1
  have v1 : IntKind.i64.wrap n = n := IntWalk.i64_in _ ⟨by omega, by omega⟩
  have NW := Lib.hid (new_any n w (by unfold newI; omega))
  rw [hlo] at NW ⊢
  clear hlo b1
  go_enter Try.func3, Try.ntmps3
  go_wp2_with fail
  refine NW.out.mono ?_
  rintro e w1 ⟨rfl, q1, b1⟩
  have Q1 : Hid (LV w1 lo ⟨1, n, 0⟩) := q1
  have B1 : Hid (Below lo w w1) := b1
  clear q1 b1 NW hn v1
  go_wp2_with fail
  refine (told_any w1).mono ?_
  rintro e w2 ⟨rfl, b2⟩
  have Q2 := Lib.hid (Q1.out.below b2)
  have B2 : Hid (Below lo w w2) := B1.out.trans (b2.mono (by have := Q1.out.lt; omega))
  clear b2 Q1 B1
  go_wp2_with fail
  refine (rnew_any n w2).mono ?_
  rintro e w3 ⟨rfl, b3⟩
  unfold RA
  have Q3 := Lib.hid (Q2.out.below b3)
  have B3 : Hid (Below lo w w3) := B2.out.trans (b3.mono (by have := Q2.out.lt; omega))
  clear b3 Q2 B2
  have hx : Below w3.heap.size w3 (w3.alloc (.cells #[.int .i64 0, .int .i64 0, .int .i64 0, .int .i64 0] 30)) := (Below.refl _ _).alloc (Nat.le_refl _) _
  have Q4 := Lib.hid (Q3.out.below hx)
  have HZ : Hid ((w3.alloc (.cells #[.int .i64 0, .int .i64 0, .int .i64 0, .int .i64 0] 30)).heap[w3.heap.size]? = some (.cells #[.int .i64 0, .int .i64 0, .int .i64 0, .int .i64 0] 30 (0, 0))) := heap_alloc_new _ _
  have B4 : Hid (Below lo w (w3.alloc (.cells #[.int .i64 0, .int .i64 0, .int .i64 0, .int .i64 0] 30))) := B3.out.trans (hx.mono (by have := Q3.out.lt; omega))
  have HNE : Hid (lo ≠ w3.heap.size ∧ lo ≤ w3.heap.size) := by have := Q3.out.lt; unfold Hid; omega
  obtain ⟨bw, hbw⟩ : ∃ b, w3.heap.size = b := ⟨_, rfl⟩
  obtain ⟨w4, hw4⟩ : ∃ W, w3.alloc (.cells #[.int .i64 0, .int .i64 0, .int .i64 0, .int .i64 0] 30) = W := ⟨_, rfl⟩
  rw [hbw] at HNE HZ
  rw [hw4] at HZ B4 Q4
  have z0 : w4.cell? ⟨bw, 0, none⟩ = some (.int .i64 0) := by rw [(row_cell HZ.out 0).1]; rfl
  have zz0 : w4.frozen? ⟨bw, 0, none⟩ = false := (row_cell HZ.out 0).2
  have z1 : w4.cell? ⟨bw, 1, none⟩ = some (.int .i64 0) := by rw [(row_cell HZ.out 1).1]; rfl
  have zz1 : w4.frozen? ⟨bw, 1, none⟩ = false := (row_cell HZ.out 1).2
  have z2 : w4.cell? ⟨bw, 2, none⟩ = some (.int .i64 0) := by rw [(row_cell HZ.out 2).1]; rfl
  have zz2 : w4.frozen? ⟨bw, 2, none⟩ = false := (row_cell HZ.out 2).2
  have z3 : w4.cell? ⟨bw, 3, none⟩ = some (.int .i64 0) := by rw [(row_cell HZ.out 3).1]; rfl
  have zz3 : w4.frozen? ⟨bw, 3, none⟩ = false := (row_cell HZ.out 3).2
  have P5 : Hid (LP lo bw w ((((w4.setCell ⟨bw, 0, none⟩ (.int .i64 (LS.mode ⟨1, n, 0⟩))).setCell ⟨bw, 1, none⟩ (.int .i64 (LS.starts ⟨1, n, 0⟩))).setCell ⟨bw, 2, none⟩ (.int .i64 (LS.left ⟨1, n, 0⟩))).setCell ⟨bw, 3, none⟩ (.int .i64 n)) lo ⟨1, n, 0⟩ n) := by
    have B := box4 HZ.out (.int .i64 (LS.mode ⟨1, n, 0⟩)) (.int .i64 (LS.starts ⟨1, n, 0⟩)) (.int .i64 (LS.left ⟨1, n, 0⟩)) (.int .i64 n)
    exact ⟨Q4.out.fo B.2 HNE.out.1, B.1, HNE.out.1, ⟨Nat.le_refl _, HNE.out.2⟩, B4.out.trans (B.2.below (fun b hb => by rw [hb]; exact HNE.out.2) (by have := Q4.out.lt; omega)), by simp⟩
  obtain ⟨w5, hw5⟩ : ∃ W, ((((w4.setCell ⟨bw, 0, none⟩ (.int .i64 (LS.mode ⟨1, n, 0⟩))).setCell ⟨bw, 1, none⟩ (.int .i64 (LS.starts ⟨1, n, 0⟩))).setCell ⟨bw, 2, none⟩ (.int .i64 (LS.left ⟨1, n, 0⟩))).setCell ⟨bw, 3, none⟩ (.int .i64 n)) = W := ⟨_, rfl⟩
  rw [hw5] at P5
  clear hx Q3 B3 Q4 B4 HZ HNE
  go_upto_block 0 with fail
  clear hw5 hbw hw4 z0 zz0 z1 zz1 z2 zz2 z3 zz3
  go_cut [9] (fun ix wx => ∃ s, LP lo bw w wx lo s n)
  case first =>
    go_wp2_with fail
    go_loopw [9] (fun iv wr => AR lo bw len n w iv wr) (fun i _ => len - (intOf i).toNat)
    case atStart => exact ⟨⟨0, _, Nat.zero_le _, rfl, P5.out⟩⟩
    case round =>
      clear P5
      obtain ⟨⟨j, s, hj, rfl, hlp⟩⟩ := hrel
      have HLPH := Lib.hid hlp
      clear hlp
      have HF : Hid (n = s.left + s.starts) := HLPH.out.hf
      by_cases hlt : j < len
      rotate_left
      · have hjI : ¬ (j : Int) < (len : Int) := by omega
        have g0 : decide ((j : Int) < (len : Int)) = false := by simp; omega
        clear hlt hj
        go_wp2_with fail
        go_meet
        exact ⟨s, HLPH.out⟩
      by_cases h150 : j < 150
      rotate_left
      · have hjI : (j : Int) < (len : Int) := by omega
        have hcI : ¬ (j : Int) < 150 := by omega
        have g0 : decide ((j : Int) < (len : Int)) = true := by simp; omega
        have g3 : decide ((j : Int) < 150) = false := by simp; omega
        clear hlt hj h150
        go_wp2_with fail
        go_meet
        exact ⟨s, HLPH.out⟩
      have g0 : decide ((j : Int) < (len : Int)) = true := by simp; omega
      have g3 : decide ((j : Int) < 150) = true := by simp; omega
      have hjI : (j : Int) < (len : Int) := by omega
      have hcI : (j : Int) < 150 := by omega
      have HX : Hid (j < len) := hlt
      obtain ⟨b, off, hA, hc⟩ := row_at HR.out (show 0 < len by omega)
      subst hA
      obtain ⟨z, hz⟩ : ∃ x, zs.getD j 0 = x := ⟨_, rfl⟩
      have hc0 := (hc j hlt).1
      rw [hz] at hc0
      have HBL : Hid (b < lo) := by unfold Hid; rw [← HLO.out]; exact World.block_lt_of_cell? _ _ hc0
      have c0 : wr.cell? ⟨b, off + j, none⟩ = some (.int .i64 z) := (HLPH.out.be.cell (by show b < lo; exact HBL.out)).trans hc0
      clear hc hc0 hz hlt hj h150
      have HNE : Hid (lo ≠ bw ∧ lo ≤ bw) := ⟨HLPH.out.ne, HLPH.out.ll.2⟩
      obtain ⟨x0, x1, x2, x3⟩ := HLPH.out.box
      go_upto_region 9 with fail
      refine wp_region_held_drew (S := (fun w' => w'.cell? ⟨bw, 0, none⟩ = some (.int .i64 s.mode) ∧ w'.cell? ⟨bw, 1, none⟩ = some (.int .i64 s.starts) ∧ w'.cell? ⟨bw, 2, none⟩ = some (.int .i64 s.left) ∧ w'.cell? ⟨bw, 3, none⟩ = some (.int .i64 n) ∧ w'.cell? ⟨b, off + j, none⟩ = some (.int .i64 z))) (by kernel_rfl) ?_ (fun hHeld => ?_)
      · exact ⟨x0, x1, x2, x3, c0⟩
      have hD : Below wr.heap.size wr wr.drew := (Below.refl _ _).drew
      have P_Y : Hid (LV wr.drew lo s) := HLPH.out.lv.below hD
      have X_Y : Hid (wr.drew.heap[bw]? = some (.cells #[.int .i64 s.mode, .int .i64 s.starts, .int .i64 s.left, .int .i64 n] 30 (0, 0))) := HLPH.out.bx
      have B_Y : Hid (Below lo w wr.drew) := HLPH.out.be.trans (hD.mono HLPH.out.nil)
      clear hD c0 x0 x1 x2 x3
      obtain ⟨Y, hY⟩ : ∃ W, wr.drew = W := ⟨_, rfl⟩
      rw [hY] at hHeld P_Y X_Y B_Y
      rw [hY]
      clear hY
      refine takeD (i := 0) (d := some 40) (v := ?_) _ rfl rfl (by kernel_rfl) (by kernel_rfl) (by kernel_rfl) (fun _ _ _ h => h) (by rfl) ?_ (by assumption) ?_
      rotate_left
      · (intro w hSw; (try dsimp only at hSw); go_simp) <;> with_reducible rfl
      try simp only [Act.put, List.setIfInBounds_toArray, List.set_cons_zero, List.set_cons_succ]
      refine takeD (i := 1) (d := some 41) (v := ?_) _ rfl rfl (by kernel_rfl) (by kernel_rfl) (by kernel_rfl) (fun _ _ _ h => h) (by rfl) ?_ (by assumption) ?_
      rotate_left
      · (intro w hSw; (try dsimp only at hSw); go_simp) <;> with_reducible rfl
      try simp only [Act.put, List.setIfInBounds_toArray, List.set_cons_zero, List.set_cons_succ]
      refine takeD (i := 2) (d := some 42) (v := ?_) _ rfl rfl (by kernel_rfl) (by kernel_rfl) (by kernel_rfl) (fun _ _ _ h => h) (by rfl) ?_ (by assumption) ?_
      rotate_left
      · (intro w hSw; (try dsimp only at hSw); go_simp) <;> with_reducible rfl
      try simp only [Act.put, List.setIfInBounds_toArray, List.set_cons_zero, List.set_cons_succ]
      refine takeD (i := 3) (d := some 43) (v := ?_) _ rfl rfl (by kernel_rfl) (by kernel_rfl) (by kernel_rfl) (fun _ _ _ h => h) (by rfl) ?_ (by assumption) ?_
      rotate_left
      · (intro w hSw; (try dsimp only at hSw); go_simp) <;> with_reducible rfl
      try simp only [Act.put, List.setIfInBounds_toArray, List.set_cons_zero, List.set_cons_succ]
      refine takeD (i := 4) (d := some 44) (v := ?_) _ rfl rfl (by kernel_rfl) (by kernel_rfl) (by kernel_rfl) (fun _ _ _ h => h) (by rfl) ?_ (by assumption) ?_
      rotate_left
      · (intro w hSw; (try dsimp only at hSw); go_simp) <;> with_reducible rfl
      try simp only [Act.put, List.setIfInBounds_toArray, List.set_cons_zero, List.set_cons_succ]
      refine takeD (i := 5) (d := some 45) (v := ?_) _ rfl rfl (by kernel_rfl) (by kernel_rfl) (by kernel_rfl) (fun _ _ _ h => h) (by rfl) ?_ (by assumption) ?_
      rotate_left
      · (intro w hSw; (try dsimp only at hSw); go_simp) <;> with_reducible rfl
      try simp only [Act.put, List.setIfInBounds_toArray, List.set_cons_zero, List.set_cons_succ]
      refine wpAnyH_ready (rs := [6, 10]) (by kernel_rfl) (by simp) ?_
      refine AllReadyH.cons rfl (fun K0 hK => ?_) (AllReadyH.cons rfl (fun K0 hK => ?_) (AllReadyH.nil))
      · try go_simp
        go_at_call 12
        refine (ldo_any lo s n z Y P_Y.out HF.out).mono ?_
        rintro e Yc ⟨rfl, q1, f1⟩
        unfold RA
        have P_Yc := Lib.hid q1
        have X_Yc : Hid (Yc.heap[bw]? = some (.cells #[.int .i64 s.mode, .int .i64 s.starts, .int .i64 s.left, .int .i64 n] 30 (0, 0))) := (f1.block bw (Array.getElem?_eq_some_iff.1 X_Y.out).1 (fun e => HNE.out.1 e.symm)).trans X_Y.out
        have B_Yc : Hid (Below lo w Yc) := B_Y.out.trans (f1.below (fun b hb => by rw [hb]; exact Nat.le_refl _) (by have := P_Y.out.lt; omega))
        have kp := (⟨f1.cell (fun e => HNE.out.1 e.symm) (hHeld.1), f1.cell (fun e => HNE.out.1 e.symm) (hHeld.2.1), f1.cell (fun e => HNE.out.1 e.symm) (hHeld.2.2.1), f1.cell (fun e => HNE.out.1 e.symm) (hHeld.2.2.2.1), f1.cell (fun e => by have h6 : b = lo := e; have := HBL.out; omega) (hHeld.2.2.2.2)⟩ : Yc.cell? ⟨bw, 0, none⟩ = some (.int .i64 s.mode) ∧ Yc.cell? ⟨bw, 1, none⟩ = some (.int .i64 s.starts) ∧ Yc.cell? ⟨bw, 2, none⟩ = some (.int .i64 s.left) ∧ Yc.cell? ⟨bw, 3, none⟩ = some (.int .i64 n) ∧ Yc.cell? ⟨b, off + j, none⟩ = some (.int .i64 z))
        clear q1 f1
        try go_wp2_with fail
        refine hK.out _ _ kp (fun hHeld => ?_)
        clear kp
        clear hK K0
        try simp only [Act.put, List.setIfInBounds_toArray, List.set_cons_zero, List.set_cons_succ]
        refine takeD (i := 7) (d := some 39) (v := ?_) _ rfl rfl (by kernel_rfl) (by kernel_rfl) (by kernel_rfl) (fun _ _ _ h => h) (by rfl) ?_ (by assumption) ?_
        rotate_left
        · (intro w hSw; (try dsimp only at hSw); go_simp) <;> with_reducible rfl
        try simp only [Act.put, List.setIfInBounds_toArray, List.set_cons_zero, List.set_cons_succ]
        refine takeD (i := 8) (d := some 47) (v := ?_) _ rfl rfl (by kernel_rfl) (by kernel_rfl) (by kernel_rfl) (fun _ _ _ h => h) (by rfl) ?_ (by assumption) ?_
        rotate_left
        · (intro w hSw; (try dsimp only at hSw); go_simp) <;> with_reducible rfl
        try simp only [Act.put, List.setIfInBounds_toArray, List.set_cons_zero, List.set_cons_succ]
        refine takeD (i := 9) (d := some 48) (v := ?_) _ rfl rfl (by kernel_rfl) (by kernel_rfl) (by kernel_rfl) (fun _ _ _ h => h) (by rfl) ?_ (by assumption) ?_
        rotate_left
        · (intro w hSw; (try dsimp only at hSw); go_simp) <;> with_reducible rfl
        try simp only [Act.put, List.setIfInBounds_toArray, List.set_cons_zero, List.set_cons_succ]
        refine wpAnyH_ready (rs := [10]) (by kernel_rfl) (by simp) ?_
        refine AllReadyH.cons rfl (fun K0 hK => ?_) (AllReadyH.nil)
        · have kp := (⟨cell_al (.cells #[.int .i64 0, .int .i64 0, .int .i64 0, .int .i64 0] 30) (hHeld.1), cell_al (.cells #[.int .i64 0, .int .i64 0, .int .i64 0, .int .i64 0] 30) (hHeld.2.1), cell_al (.cells #[.int .i64 0, .int .i64 0, .int .i64 0, .int .i64 0] 30) (hHeld.2.2.1), cell_al (.cells #[.int .i64 0, .int .i64 0, .int .i64 0, .int .i64 0] 30) (hHeld.2.2.2.1), cell_al (.cells #[.int .i64 0, .int .i64 0, .int .i64 0, .int .i64 0] 30) (hHeld.2.2.2.2)⟩ : (Yc.alloc (.cells #[.int .i64 0, .int .i64 0, .int .i64 0, .int .i64 0] 30)).cell? ⟨bw, 0, none⟩ = some (.int .i64 s.mode) ∧ (Yc.alloc (.cells #[.int .i64 0, .int .i64 0, .int .i64 0, .int .i64 0] 30)).cell? ⟨bw, 1, none⟩ = some (.int .i64 s.starts) ∧ (Yc.alloc (.cells #[.int .i64 0, .int .i64 0, .int .i64 0, .int .i64 0] 30)).cell? ⟨bw, 2, none⟩ = some (.int .i64 s.left) ∧ (Yc.alloc (.cells #[.int .i64 0, .int .i64 0, .int .i64 0, .int .i64 0] 30)).cell? ⟨bw, 3, none⟩ = some (.int .i64 n) ∧ (Yc.alloc (.cells #[.int .i64 0, .int .i64 0, .int .i64 0, .int .i64 0] 30)).cell? ⟨b, off + j, none⟩ = some (.int .i64 z))
          have hx : Below Yc.heap.size Yc (Yc.alloc (.cells #[.int .i64 0, .int .i64 0, .int .i64 0, .int .i64 0] 30)) := (Below.refl _ _).alloc (Nat.le_refl _) _
          have P_Yca := Lib.hid (P_Yc.out.below hx)
          have X_Yca : Hid ((Yc.alloc (.cells #[.int .i64 0, .int .i64 0, .int .i64 0, .int .i64 0] 30)).heap[bw]? = some (.cells #[.int .i64 s.mode, .int .i64 s.starts, .int .i64 s.left, .int .i64 n] 30 (0, 0))) := (hx.block bw (Array.getElem?_eq_some_iff.1 X_Yc.out).1).trans X_Yc.out
          have B_Yca : Hid (Below lo w (Yc.alloc (.cells #[.int .i64 0, .int .i64 0, .int .i64 0, .int .i64 0] 30))) := B_Yc.out.trans (hx.mono (by have := P_Yc.out.lt; omega))
          have V_Yca : Hid ((Yc.alloc (.cells #[.int .i64 0, .int .i64 0, .int .i64 0, .int .i64 0] 30)).heap[Yc.heap.size]? = some (.cells #[.int .i64 0, .int .i64 0, .int .i64 0, .int .i64 0] 30 (0, 0)) ∧ lo ≠ Yc.heap.size ∧ bw ≠ Yc.heap.size ∧ lo ≤ Yc.heap.size) := ⟨heap_alloc_new _ _, by have := P_Yc.out.lt; omega, by have := (Array.getElem?_eq_some_iff.1 X_Yc.out).1; omega, by have := P_Yc.out.lt; omega⟩
          obtain ⟨bz, hbz⟩ : ∃ b, Yc.heap.size = b := ⟨_, rfl⟩
          obtain ⟨Yca, h_Yca⟩ : ∃ W, Yc.alloc (.cells #[.int .i64 0, .int .i64 0, .int .i64 0, .int .i64 0] 30) = W := ⟨_, rfl⟩
          rw [h_Yca] at kp P_Yca X_Yca B_Yca V_Yca
          rw [hbz] at V_Yca
          clear hx
          try go_simp
          try rw [h_Yca]
          try rw [hbz]
          refine hK.out _ _ kp (fun hHeld => ?_)
          clear kp h_Yca hbz
          clear hK K0
          try simp only [Act.put, List.setIfInBounds_toArray, List.set_cons_zero, List.set_cons_succ]
          have z0 : Yca.cell? ⟨bz, 0, none⟩ = some (.int .i64 0) := by rw [(row_cell V_Yca.out.1 0).1]; rfl
          have zz0 : Yca.frozen? ⟨bz, 0, none⟩ = false := (row_cell V_Yca.out.1 0).2
          have z1 : Yca.cell? ⟨bz, 1, none⟩ = some (.int .i64 0) := by rw [(row_cell V_Yca.out.1 1).1]; rfl
          have zz1 : Yca.frozen? ⟨bz, 1, none⟩ = false := (row_cell V_Yca.out.1 1).2
          have z2 : Yca.cell? ⟨bz, 2, none⟩ = some (.int .i64 0) := by rw [(row_cell V_Yca.out.1 2).1]; rfl
          have zz2 : Yca.frozen? ⟨bz, 2, none⟩ = false := (row_cell V_Yca.out.1 2).2
          have z3 : Yca.cell? ⟨bz, 3, none⟩ = some (.int .i64 0) := by rw [(row_cell V_Yca.out.1 3).1]; rfl
          have zz3 : Yca.frozen? ⟨bz, 3, none⟩ = false := (row_cell V_Yca.out.1 3).2
          have BZ := box4 V_Yca.out.1 (.int .i64 (actS s z).mode) (.int .i64 (actS s z).starts) (.int .i64 (actS s z).left) (.int .i64 n)
          have kp := (⟨BZ.2.cell (fun e => V_Yca.out.2.2.1 e) (hHeld.1), BZ.2.cell (fun e => V_Yca.out.2.2.1 e) (hHeld.2.1), BZ.2.cell (fun e => V_Yca.out.2.2.1 e) (hHeld.2.2.1), BZ.2.cell (fun e => V_Yca.out.2.2.1 e) (hHeld.2.2.2.1), BZ.2.cell (fun e => by have h6 : b = bz := e; have := HBL.out; have := V_Yca.out.2.2.2; omega) (hHeld.2.2.2.2)⟩ : ((((Yca.setCell ⟨bz, 0, none⟩ (.int .i64 (actS s z).mode)).setCell ⟨bz, 1, none⟩ (.int .i64 (actS s z).starts)).setCell ⟨bz, 2, none⟩ (.int .i64 (actS s z).left)).setCell ⟨bz, 3, none⟩ (.int .i64 n)).cell? ⟨bw, 0, none⟩ = some (.int .i64 s.mode) ∧ ((((Yca.setCell ⟨bz, 0, none⟩ (.int .i64 (actS s z).mode)).setCell ⟨bz, 1, none⟩ (.int .i64 (actS s z).starts)).setCell ⟨bz, 2, none⟩ (.int .i64 (actS s z).left)).setCell ⟨bz, 3, none⟩ (.int .i64 n)).cell? ⟨bw, 1, none⟩ = some (.int .i64 s.starts) ∧ ((((Yca.setCell ⟨bz, 0, none⟩ (.int .i64 (actS s z).mode)).setCell ⟨bz, 1, none⟩ (.int .i64 (actS s z).starts)).setCell ⟨bz, 2, none⟩ (.int .i64 (actS s z).left)).setCell ⟨bz, 3, none⟩ (.int .i64 n)).cell? ⟨bw, 2, none⟩ = some (.int .i64 s.left) ∧ ((((Yca.setCell ⟨bz, 0, none⟩ (.int .i64 (actS s z).mode)).setCell ⟨bz, 1, none⟩ (.int .i64 (actS s z).starts)).setCell ⟨bz, 2, none⟩ (.int .i64 (actS s z).left)).setCell ⟨bz, 3, none⟩ (.int .i64 n)).cell? ⟨bw, 3, none⟩ = some (.int .i64 n) ∧ ((((Yca.setCell ⟨bz, 0, none⟩ (.int .i64 (actS s z).mode)).setCell ⟨bz, 1, none⟩ (.int .i64 (actS s z).starts)).setCell ⟨bz, 2, none⟩ (.int .i64 (actS s z).left)).setCell ⟨bz, 3, none⟩ (.int .i64 n)).cell? ⟨b, off + j, none⟩ = some (.int .i64 z))
          have P6 : Hid (LV ((((Yca.setCell ⟨bz, 0, none⟩ (.int .i64 (actS s z).mode)).setCell ⟨bz, 1, none⟩ (.int .i64 (actS s z).starts)).setCell ⟨bz, 2, none⟩ (.int .i64 (actS s z).left)).setCell ⟨bz, 3, none⟩ (.int .i64 n)) lo (actS s z)) := P_Yca.out.fo BZ.2 V_Yca.out.2.1
          have X6 : Hid (((((Yca.setCell ⟨bz, 0, none⟩ (.int .i64 (actS s z).mode)).setCell ⟨bz, 1, none⟩ (.int .i64 (actS s z).starts)).setCell ⟨bz, 2, none⟩ (.int .i64 (actS s z).left)).setCell ⟨bz, 3, none⟩ (.int .i64 n)).heap[bw]? = some (.cells #[.int .i64 s.mode, .int .i64 s.starts, .int .i64 s.left, .int .i64 n] 30 (0, 0))) := (BZ.2.block bw (Array.getElem?_eq_some_iff.1 X_Yca.out).1 V_Yca.out.2.2.1).trans X_Yca.out
          have Z6 : Hid (((((Yca.setCell ⟨bz, 0, none⟩ (.int .i64 (actS s z).mode)).setCell ⟨bz, 1, none⟩ (.int .i64 (actS s z).starts)).setCell ⟨bz, 2, none⟩ (.int .i64 (actS s z).left)).setCell ⟨bz, 3, none⟩ (.int .i64 n)).heap[bz]? = some (.cells #[.int .i64 (actS s z).mode, .int .i64 (actS s z).starts, .int .i64 (actS s z).left, .int .i64 n] 30 (0, 0))) := BZ.1
          have B6 : Hid (Below lo w ((((Yca.setCell ⟨bz, 0, none⟩ (.int .i64 (actS s z).mode)).setCell ⟨bz, 1, none⟩ (.int .i64 (actS s z).starts)).setCell ⟨bz, 2, none⟩ (.int .i64 (actS s z).left)).setCell ⟨bz, 3, none⟩ (.int .i64 n))) := B_Yca.out.trans (BZ.2.below (fun b hb => by rw [hb]; exact V_Yca.out.2.2.2) (by have := P_Yca.out.lt; omega))
          clear BZ
          refine wpAnyH_ready (rs := [11]) (by kernel_rfl) (by simp) ?_
          refine AllReadyH.cons rfl (fun K0 hK => ?_) AllReadyH.nil
          try go_simp
          refine hK.out _ _ kp (fun hHeld => ?_)
          clear kp
          clear hK K0
          try simp only [Act.put, List.setIfInBounds_toArray, List.set_cons_zero, List.set_cons_succ]
          refine takeD (i := 12) (d := some 11) (v := ?_) _ rfl rfl (by kernel_rfl) (by kernel_rfl) (by kernel_rfl) (fun _ _ _ h => h) (by rfl) ?_ (by assumption) ?_
          rotate_left
          · (intro w hSw; (try dsimp only at hSw); go_simp) <;> with_reducible rfl
          try simp only [Act.put, List.setIfInBounds_toArray, List.set_cons_zero, List.set_cons_succ]
          refine wpAnyH_done (by kernel_rfl) ?_ _
          clear hHeld z0 zz0 z1 zz1 z2 zz2 z3 zz3 P_Yca X_Yca V_Yca B_Yca
          obtain ⟨w6, hw6⟩ : ∃ W, ((((Yca.setCell ⟨bz, 0, none⟩ (.int .i64 (actS s z).mode)).setCell ⟨bz, 1, none⟩ (.int .i64 (actS s z).starts)).setCell ⟨bz, 2, none⟩ (.int .i64 (actS s z).left)).setCell ⟨bz, 3, none⟩ (.int .i64 n)) = W := ⟨_, rfl⟩
          rw [hw6] at P6 X6 Z6 B6
          rw [hw6]
          clear hw6
          have y0 : w6.cell? ⟨bz, 0, none⟩ = some (.int .i64 (actS s z).mode) := by rw [(row_cell Z6.out 0).1]; rfl
          have y1 : w6.cell? ⟨bz, 1, none⟩ = some (.int .i64 (actS s z).starts) := by rw [(row_cell Z6.out 1).1]; rfl
          have y2 : w6.cell? ⟨bz, 2, none⟩ = some (.int .i64 (actS s z).left) := by rw [(row_cell Z6.out 2).1]; rfl
          have y3 : w6.cell? ⟨bz, 3, none⟩ = some (.int .i64 n) := by rw [(row_cell Z6.out 3).1]; rfl
          have x0 : w6.cell? ⟨bw, 0, none⟩ = some (.int .i64 s.mode) := by rw [(row_cell X6.out 0).1]; rfl
          have xz0 : w6.frozen? ⟨bw, 0, none⟩ = false := (row_cell X6.out 0).2
          have x1 : w6.cell? ⟨bw, 1, none⟩ = some (.int .i64 s.starts) := by rw [(row_cell X6.out 1).1]; rfl
          have xz1 : w6.frozen? ⟨bw, 1, none⟩ = false := (row_cell X6.out 1).2
          have x2 : w6.cell? ⟨bw, 2, none⟩ = some (.int .i64 s.left) := by rw [(row_cell X6.out 2).1]; rfl
          have xz2 : w6.frozen? ⟨bw, 2, none⟩ = false := (row_cell X6.out 2).2
          have x3 : w6.cell? ⟨bw, 3, none⟩ = some (.int .i64 n) := by rw [(row_cell X6.out 3).1]; rfl
          have xz3 : w6.frozen? ⟨bw, 3, none⟩ = false := (row_cell X6.out 3).2
          have P7 := Lib.hid (LP.put HLPH.out P6.out X6.out B6.out (actS_sum HF.out z))
          obtain ⟨w7, hw7⟩ : ∃ W, ((((w6.setCell ⟨bw, 0, none⟩ (.int .i64 (actS s z).mode)).setCell ⟨bw, 1, none⟩ (.int .i64 (actS s z).starts)).setCell ⟨bw, 2, none⟩ (.int .i64 (actS s z).left)).setCell ⟨bw, 3, none⟩ (.int .i64 n)) = W := ⟨_, rfl⟩
          rw [hw7] at P7
          obtain ⟨r0, r1, r2, r3⟩ := P7.out.box
          clear P6 X6 Z6 B6
          go_wp2_with fail
          refine (lsame_any lo (actS s z) n w7 P7.out.lv).mono ?_
          rintro e w8 ⟨rfl, b8⟩
          have P8 := Lib.hid (P7.out.below b8)
          clear b8 P7 hw7 r0 r1 r2 r3
          go_wp2_with fail
          go_roundw
          case rel =>
            have Q : AR lo bw len n w (.int .i64 ((j : Int) + 1)) w8 := ⟨⟨j + 1, actS s z, HX.out, by go_num, P8.out⟩⟩
            first | exact Q | ((repeat apply Exists.intro); exact ⟨Q, rfl⟩)
          case measure => have := HX.out; simp [intOf]; omega
      · have kp := (⟨cell_al (.cells #[.int .i64 0, .int .i64 0, .int .i64 0, .int .i64 0] 30) (hHeld.1), cell_al (.cells #[.int .i64 0, .int .i64 0, .int .i64 0, .int .i64 0] 30) (hHeld.2.1), cell_al (.cells #[.int .i64 0, .int .i64 0, .int .i64 0, .int .i64 0] 30) (hHeld.2.2.1), cell_al (.cells #[.int .i64 0, .int .i64 0, .int .i64 0, .int .i64 0] 30) (hHeld.2.2.2.1), cell_al (.cells #[.int .i64 0, .int .i64 0, .int .i64 0, .int .i64 0] 30) (hHeld.2.2.2.2)⟩ : (Y.alloc (.cells #[.int .i64 0, .int .i64 0, .int .i64 0, .int .i64 0] 30)).cell? ⟨bw, 0, none⟩ = some (.int .i64 s.mode) ∧ (Y.alloc (.cells #[.int .i64 0, .int .i64 0, .int .i64 0, .int .i64 0] 30)).cell? ⟨bw, 1, none⟩ = some (.int .i64 s.starts) ∧ (Y.alloc (.cells #[.int .i64 0, .int .i64 0, .int .i64 0, .int .i64 0] 30)).cell? ⟨bw, 2, none⟩ = some (.int .i64 s.left) ∧ (Y.alloc (.cells #[.int .i64 0, .int .i64 0, .int .i64 0, .int .i64 0] 30)).cell? ⟨bw, 3, none⟩ = some (.int .i64 n) ∧ (Y.alloc (.cells #[.int .i64 0, .int .i64 0, .int .i64 0, .int .i64 0] 30)).cell? ⟨b, off + j, none⟩ = some (.int .i64 z))
        have hx : Below Y.heap.size Y (Y.alloc (.cells #[.int .i64 0, .int .i64 0, .int .i64 0, .int .i64 0] 30)) := (Below.refl _ _).alloc (Nat.le_refl _) _
        have P_Ya := Lib.hid (P_Y.out.below hx)
        have X_Ya : Hid ((Y.alloc (.cells #[.int .i64 0, .int .i64 0, .int .i64 0, .int .i64 0] 30)).heap[bw]? = some (.cells #[.int .i64 s.mode, .int .i64 s.starts, .int .i64 s.left, .int .i64 n] 30 (0, 0))) := (hx.block bw (Array.getElem?_eq_some_iff.1 X_Y.out).1).trans X_Y.out
        have B_Ya : Hid (Below lo w (Y.alloc (.cells #[.int .i64 0, .int .i64 0, .int .i64 0, .int .i64 0] 30))) := B_Y.out.trans (hx.mono (by have := P_Y.out.lt; omega))
        have V_Ya : Hid ((Y.alloc (.cells #[.int .i64 0, .int .i64 0, .int .i64 0, .int .i64 0] 30)).heap[Y.heap.size]? = some (.cells #[.int .i64 0, .int .i64 0, .int .i64 0, .int .i64 0] 30 (0, 0)) ∧ lo ≠ Y.heap.size ∧ bw ≠ Y.heap.size ∧ lo ≤ Y.heap.size) := ⟨heap_alloc_new _ _, by have := P_Y.out.lt; omega, by have := (Array.getElem?_eq_some_iff.1 X_Y.out).1; omega, by have := P_Y.out.lt; omega⟩
        obtain ⟨bz, hbz⟩ : ∃ b, Y.heap.size = b := ⟨_, rfl⟩
        obtain ⟨Ya, h_Ya⟩ : ∃ W, Y.alloc (.cells #[.int .i64 0, .int .i64 0, .int .i64 0, .int .i64 0] 30) = W := ⟨_, rfl⟩
        rw [h_Ya] at kp P_Ya X_Ya B_Ya V_Ya
        rw [hbz] at V_Ya
        clear hx
        try go_simp
        try rw [h_Ya]
        try rw [hbz]
        refine hK.out _ _ kp (fun hHeld => ?_)
        clear kp h_Ya hbz
        clear hK K0
        try simp only [Act.put, List.setIfInBounds_toArray, List.set_cons_zero, List.set_cons_succ]
        refine wpAnyH_ready (rs := [6]) (by kernel_rfl) (by simp) ?_
        refine AllReadyH.cons rfl (fun K0 hK => ?_) (AllReadyH.nil)
        · try go_simp
          go_at_call 12
          refine (ldo_any lo s n z Ya P_Ya.out HF.out).mono ?_
          rintro e Yac ⟨rfl, q1, f1⟩
          unfold RA
          have P_Yac := Lib.hid q1
          have X_Yac : Hid (Yac.heap[bw]? = some (.cells #[.int .i64 s.mode, .int .i64 s.starts, .int .i64 s.left, .int .i64 n] 30 (0, 0))) := (f1.block bw (Array.getElem?_eq_some_iff.1 X_Ya.out).1 (fun e => HNE.out.1 e.symm)).trans X_Ya.out
          have B_Yac : Hid (Below lo w Yac) := B_Ya.out.trans (f1.below (fun b hb => by rw [hb]; exact Nat.le_refl _) (by have := P_Ya.out.lt; omega))
          have V_Yac : Hid (Yac.heap[bz]? = some (.cells #[.int .i64 0, .int .i64 0, .int .i64 0, .int .i64 0] 30 (0, 0)) ∧ lo ≠ bz ∧ bw ≠ bz ∧ lo ≤ bz) := ⟨(f1.block bz (Array.getElem?_eq_some_iff.1 V_Ya.out.1).1 (fun e => V_Ya.out.2.1 e.symm)).trans V_Ya.out.1, V_Ya.out.2⟩
          have kp := (⟨f1.cell (fun e => HNE.out.1 e.symm) (hHeld.1), f1.cell (fun e => HNE.out.1 e.symm) (hHeld.2.1), f1.cell (fun e => HNE.out.1 e.symm) (hHeld.2.2.1), f1.cell (fun e => HNE.out.1 e.symm) (hHeld.2.2.2.1), f1.cell (fun e => by have h6 : b = lo := e; have := HBL.out; omega) (hHeld.2.2.2.2)⟩ : Yac.cell? ⟨bw, 0, none⟩ = some (.int .i64 s.mode) ∧ Yac.cell? ⟨bw, 1, none⟩ = some (.int .i64 s.starts) ∧ Yac.cell? ⟨bw, 2, none⟩ = some (.int .i64 s.left) ∧ Yac.cell? ⟨bw, 3, none⟩ = some (.int .i64 n) ∧ Yac.cell? ⟨b, off + j, none⟩ = some (.int .i64 z))
          clear q1 f1
          try go_wp2_with fail
          refine hK.out _ _ kp (fun hHeld => ?_)
          clear kp
          clear hK K0
          try simp only [Act.put, List.setIfInBounds_toArray, List.set_cons_zero, List.set_cons_succ]
          refine takeD (i := 7) (d := some 39) (v := ?_) _ rfl rfl (by kernel_rfl) (by kernel_rfl) (by kernel_rfl) (fun _ _ _ h => h) (by rfl) ?_ (by assumption) ?_
          rotate_left
          · (intro w hSw; (try dsimp only at hSw); go_simp) <;> with_reducible rfl
          try simp only [Act.put, List.setIfInBounds_toArray, List.set_cons_zero, List.set_cons_succ]
          refine takeD (i := 8) (d := some 47) (v := ?_) _ rfl rfl (by kernel_rfl) (by kernel_rfl) (by kernel_rfl) (fun _ _ _ h => h) (by rfl) ?_ (by assumption) ?_
          rotate_left
          · (intro w hSw; (try dsimp only at hSw); go_simp) <;> with_reducible rfl
          try simp only [Act.put, List.setIfInBounds_toArray, List.set_cons_zero, List.set_cons_succ]
          refine takeD (i := 9) (d := some 48) (v := ?_) _ rfl rfl (by kernel_rfl) (by kernel_rfl) (by kernel_rfl) (fun _ _ _ h => h) (by rfl) ?_ (by assumption) ?_
          rotate_left
          · (intro w hSw; (try dsimp only at hSw); go_simp) <;> with_reducible rfl
          try simp only [Act.put, List.setIfInBounds_toArray, List.set_cons_zero, List.set_cons_succ]
          have z0 : Yac.cell? ⟨bz, 0, none⟩ = some (.int .i64 0) := by rw [(row_cell V_Yac.out.1 0).1]; rfl
          have zz0 : Yac.frozen? ⟨bz, 0, none⟩ = false := (row_cell V_Yac.out.1 0).2
          have z1 : Yac.cell? ⟨bz, 1, none⟩ = some (.int .i64 0) := by rw [(row_cell V_Yac.out.1 1).1]; rfl
          have zz1 : Yac.frozen? ⟨bz, 1, none⟩ = false := (row_cell V_Yac.out.1 1).2
          have z2 : Yac.cell? ⟨bz, 2, none⟩ = some (.int .i64 0) := by rw [(row_cell V_Yac.out.1 2).1]; rfl
          have zz2 : Yac.frozen? ⟨bz, 2, none⟩ = false := (row_cell V_Yac.out.1 2).2
          have z3 : Yac.cell? ⟨bz, 3, none⟩ = some (.int .i64 0) := by rw [(row_cell V_Yac.out.1 3).1]; rfl
          have zz3 : Yac.frozen? ⟨bz, 3, none⟩ = false := (row_cell V_Yac.out.1 3).2
          have BZ := box4 V_Yac.out.1 (.int .i64 (actS s z).mode) (.int .i64 (actS s z).starts) (.int .i64 (actS s z).left) (.int .i64 n)
          have kp := (⟨BZ.2.cell (fun e => V_Yac.out.2.2.1 e) (hHeld.1), BZ.2.cell (fun e => V_Yac.out.2.2.1 e) (hHeld.2.1), BZ.2.cell (fun e => V_Yac.out.2.2.1 e) (hHeld.2.2.1), BZ.2.cell (fun e => V_Yac.out.2.2.1 e) (hHeld.2.2.2.1), BZ.2.cell (fun e => by have h6 : b = bz := e; have := HBL.out; have := V_Yac.out.2.2.2; omega) (hHeld.2.2.2.2)⟩ : ((((Yac.setCell ⟨bz, 0, none⟩ (.int .i64 (actS s z).mode)).setCell ⟨bz, 1, none⟩ (.int .i64 (actS s z).starts)).setCell ⟨bz, 2, none⟩ (.int .i64 (actS s z).left)).setCell ⟨bz, 3, none⟩ (.int .i64 n)).cell? ⟨bw, 0, none⟩ = some (.int .i64 s.mode) ∧ ((((Yac.setCell ⟨bz, 0, none⟩ (.int .i64 (actS s z).mode)).setCell ⟨bz, 1, none⟩ (.int .i64 (actS s z).starts)).setCell ⟨bz, 2, none⟩ (.int .i64 (actS s z).left)).setCell ⟨bz, 3, none⟩ (.int .i64 n)).cell? ⟨bw, 1, none⟩ = some (.int .i64 s.starts) ∧ ((((Yac.setCell ⟨bz, 0, none⟩ (.int .i64 (actS s z).mode)).setCell ⟨bz, 1, none⟩ (.int .i64 (actS s z).starts)).setCell ⟨bz, 2, none⟩ (.int .i64 (actS s z).left)).setCell ⟨bz, 3, none⟩ (.int .i64 n)).cell? ⟨bw, 2, none⟩ = some (.int .i64 s.left) ∧ ((((Yac.setCell ⟨bz, 0, none⟩ (.int .i64 (actS s z).mode)).setCell ⟨bz, 1, none⟩ (.int .i64 (actS s z).starts)).setCell ⟨bz, 2, none⟩ (.int .i64 (actS s z).left)).setCell ⟨bz, 3, none⟩ (.int .i64 n)).cell? ⟨bw, 3, none⟩ = some (.int .i64 n) ∧ ((((Yac.setCell ⟨bz, 0, none⟩ (.int .i64 (actS s z).mode)).setCell ⟨bz, 1, none⟩ (.int .i64 (actS s z).starts)).setCell ⟨bz, 2, none⟩ (.int .i64 (actS s z).left)).setCell ⟨bz, 3, none⟩ (.int .i64 n)).cell? ⟨b, off + j, none⟩ = some (.int .i64 z))
          have P6 : Hid (LV ((((Yac.setCell ⟨bz, 0, none⟩ (.int .i64 (actS s z).mode)).setCell ⟨bz, 1, none⟩ (.int .i64 (actS s z).starts)).setCell ⟨bz, 2, none⟩ (.int .i64 (actS s z).left)).setCell ⟨bz, 3, none⟩ (.int .i64 n)) lo (actS s z)) := P_Yac.out.fo BZ.2 V_Yac.out.2.1
          have X6 : Hid (((((Yac.setCell ⟨bz, 0, none⟩ (.int .i64 (actS s z).mode)).setCell ⟨bz, 1, none⟩ (.int .i64 (actS s z).starts)).setCell ⟨bz, 2, none⟩ (.int .i64 (actS s z).left)).setCell ⟨bz, 3, none⟩ (.int .i64 n)).heap[bw]? = some (.cells #[.int .i64 s.mode, .int .i64 s.starts, .int .i64 s.left, .int .i64 n] 30 (0, 0))) := (BZ.2.block bw (Array.getElem?_eq_some_iff.1 X_Yac.out).1 V_Yac.out.2.2.1).trans X_Yac.out
          have Z6 : Hid (((((Yac.setCell ⟨bz, 0, none⟩ (.int .i64 (actS s z).mode)).setCell ⟨bz, 1, none⟩ (.int .i64 (actS s z).starts)).setCell ⟨bz, 2, none⟩ (.int .i64 (actS s z).left)).setCell ⟨bz, 3, none⟩ (.int .i64 n)).heap[bz]? = some (.cells #[.int .i64 (actS s z).mode, .int .i64 (actS s z).starts, .int .i64 (actS s z).left, .int .i64 n] 30 (0, 0))) := BZ.1
          have B6 : Hid (Below lo w ((((Yac.setCell ⟨bz, 0, none⟩ (.int .i64 (actS s z).mode)).setCell ⟨bz, 1, none⟩ (.int .i64 (actS s z).starts)).setCell ⟨bz, 2, none⟩ (.int .i64 (actS s z).left)).setCell ⟨bz, 3, none⟩ (.int .i64 n))) := B_Yac.out.trans (BZ.2.below (fun b hb => by rw [hb]; exact V_Yac.out.2.2.2) (by have := P_Yac.out.lt; omega))
          clear BZ
          refine wpAnyH_ready (rs := [11]) (by kernel_rfl) (by simp) ?_
          refine AllReadyH.cons rfl (fun K0 hK => ?_) AllReadyH.nil
          try go_simp
          refine hK.out _ _ kp (fun hHeld => ?_)
          clear kp
          clear hK K0
          try simp only [Act.put, List.setIfInBounds_toArray, List.set_cons_zero, List.set_cons_succ]
          refine takeD (i := 12) (d := some 11) (v := ?_) _ rfl rfl (by kernel_rfl) (by kernel_rfl) (by kernel_rfl) (fun _ _ _ h => h) (by rfl) ?_ (by assumption) ?_
          rotate_left
          · (intro w hSw; (try dsimp only at hSw); go_simp) <;> with_reducible rfl
          try simp only [Act.put, List.setIfInBounds_toArray, List.set_cons_zero, List.set_cons_succ]
          refine wpAnyH_done (by kernel_rfl) ?_ _
          clear hHeld z0 zz0 z1 zz1 z2 zz2 z3 zz3 P_Yac X_Yac V_Yac B_Yac
          obtain ⟨w6, hw6⟩ : ∃ W, ((((Yac.setCell ⟨bz, 0, none⟩ (.int .i64 (actS s z).mode)).setCell ⟨bz, 1, none⟩ (.int .i64 (actS s z).starts)).setCell ⟨bz, 2, none⟩ (.int .i64 (actS s z).left)).setCell ⟨bz, 3, none⟩ (.int .i64 n)) = W := ⟨_, rfl⟩
          rw [hw6] at P6 X6 Z6 B6
          rw [hw6]
          clear hw6
          have y0 : w6.cell? ⟨bz, 0, none⟩ = some (.int .i64 (actS s z).mode) := by rw [(row_cell Z6.out 0).1]; rfl
          have y1 : w6.cell? ⟨bz, 1, none⟩ = some (.int .i64 (actS s z).starts) := by rw [(row_cell Z6.out 1).1]; rfl
          have y2 : w6.cell? ⟨bz, 2, none⟩ = some (.int .i64 (actS s z).left) := by rw [(row_cell Z6.out 2).1]; rfl
          have y3 : w6.cell? ⟨bz, 3, none⟩ = some (.int .i64 n) := by rw [(row_cell Z6.out 3).1]; rfl
          have x0 : w6.cell? ⟨bw, 0, none⟩ = some (.int .i64 s.mode) := by rw [(row_cell X6.out 0).1]; rfl
          have xz0 : w6.frozen? ⟨bw, 0, none⟩ = false := (row_cell X6.out 0).2
          have x1 : w6.cell? ⟨bw, 1, none⟩ = some (.int .i64 s.starts) := by rw [(row_cell X6.out 1).1]; rfl
          have xz1 : w6.frozen? ⟨bw, 1, none⟩ = false := (row_cell X6.out 1).2
          have x2 : w6.cell? ⟨bw, 2, none⟩ = some (.int .i64 s.left) := by rw [(row_cell X6.out 2).1]; rfl
          have xz2 : w6.frozen? ⟨bw, 2, none⟩ = false := (row_cell X6.out 2).2
          have x3 : w6.cell? ⟨bw, 3, none⟩ = some (.int .i64 n) := by rw [(row_cell X6.out 3).1]; rfl
          have xz3 : w6.frozen? ⟨bw, 3, none⟩ = false := (row_cell X6.out 3).2
          have P7 := Lib.hid (LP.put HLPH.out P6.out X6.out B6.out (actS_sum HF.out z))
          obtain ⟨w7, hw7⟩ : ∃ W, ((((w6.setCell ⟨bw, 0, none⟩ (.int .i64 (actS s z).mode)).setCell ⟨bw, 1, none⟩ (.int .i64 (actS s z).starts)).setCell ⟨bw, 2, none⟩ (.int .i64 (actS s z).left)).setCell ⟨bw, 3, none⟩ (.int .i64 n)) = W := ⟨_, rfl⟩
          rw [hw7] at P7
          obtain ⟨r0, r1, r2, r3⟩ := P7.out.box
          clear P6 X6 Z6 B6
          go_wp2_with fail
          refine (lsame_any lo (actS s z) n w7 P7.out.lv).mono ?_
          rintro e w8 ⟨rfl, b8⟩
          have P8 := Lib.hid (P7.out.below b8)
          clear b8 P7 hw7 r0 r1 r2 r3
          go_wp2_with fail
          go_roundw
          case rel =>
            have Q : AR lo bw len n w (.int .i64 ((j : Int) + 1)) w8 := ⟨⟨j + 1, actS s z, HX.out, by go_num, P8.out⟩⟩
            first | exact Q | ((repeat apply Exists.intro); exact ⟨Q, rfl⟩)
          case measure => have := HX.out; simp [intOf]; omega
  case rest =>
    obtain ⟨w8, hw8⟩ : ∃ w', w' = wc := ⟨_, rfl⟩
    subst hw8
    obtain ⟨s, hs⟩ := hcut
    have P8 := Lib.hid hs
    obtain ⟨r0, r1, r2, r3⟩ := P8.out.box
    clear hs P5
    go_wp2_with fail
    refine (lsame_any lo s n w8 P8.out.lv).mono ?_
    rintro e w9 ⟨rfl, b9⟩
    have B9 : Hid (Below lo w w9) := P8.out.be.trans (b9.mono P8.out.nil)
    clear b9 r0 r1 r2 r3
    go_wp2_with fail
    go_ret
    exact ⟨rfl, B9.out⟩
end Go.Proofs.Ytiellkodjhfhhaa.Lf
