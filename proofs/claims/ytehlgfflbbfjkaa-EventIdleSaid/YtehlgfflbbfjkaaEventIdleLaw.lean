/-
  EventIdle's walk. Each statement bears its own conditions.
-/
import Derived.Test.YtehlgfflbbfjkaaEvS
namespace Go.Proofs.Ytehlgfflbbfjkaa.E
open Go.RowKit Go.Proofs.Ytehlgfflbbfjkaa.I
set_option linter.unusedVariables false
set_option linter.unusedSimpArgs false
set_option maxRecDepth 100000 in
set_option maxHeartbeats 8000000 in
theorem idle_walk (a : Option Addr) (len cap : Nat) (id : Int) (xs : List OP) (w : World) (h0 : Row w 2 RO (.slice a len cap) xs) : Calls Try.prog 8 #[.slice a len cap, .int .i64 id] w fun e w' => e = .returned (.bool true) ∧ Below w.heap.size w w' := by
  obtain ⟨n, hn⟩ : ∃ n, len = n := ⟨_, rfl⟩
  subst hn
  have HR := Lib.hid h0
  have HNM : Hid (len ≤ 8796093021952) := by
    obtain ⟨a', cap', e, hm⟩ := h0.form
    injection e with e1 e2 e3
    unfold rowMax at hm
    unfold Hid; omega
  clear h0
  have he : ∀ (x : Nat) (w : World), (binOp .eql 23 (.pointer (some ⟨x, 0, none⟩)) (.pointer none)).run Try.prog w = .ok (.bool false) w := fun _ _ => rfl
  obtain ⟨lo, hlo⟩ : ∃ lo, w.heap.size = lo := ⟨_, rfl⟩
  have NW := Lib.hid (new_any w)
  have HLO : Hid (lo ≤ w.heap.size ∧ w.heap.size ≤ lo) := by unfold Hid; omega
  rw [hlo] at NW ⊢
  clear hlo
  go_enter Try.func8, Try.ntmps8
  go_wp2_with fail
  refine NW.out.mono ?_
  rintro e w1 ⟨rfl, q1, b1⟩
  have Q1 := Lib.hid q1
  have B1 := Lib.hid b1
  clear q1 b1 NW
  go_wp2_with fail
  refine (told_any w1).mono ?_
  rintro e w2 ⟨rfl, b2⟩
  have Q2 : Hid (EV lo w2 lo lo false []) := Q1.out.below b2
  have B2 : Hid (Below lo w w2) := B1.out.trans (b2.mono (by have := Q1.out.lt; omega))
  clear b2 Q1 B1
  go_upto_block 0 with fail
  have S3 : Hid (ST lo w2.heap.size (w2.alloc (.cells #[.bool false, .slice none 0 0] 28)) lo lo false [] (.slice none 0 0)) := ST.start Q2.out
  have B3 : Hid (Below lo w (w2.alloc (.cells #[.bool false, .slice none 0 0] 28))) := B2.out.alloc (by have := Q2.out.lt; omega) _
  clear Q2 B2
  generalize w2.alloc (.cells #[.bool false, .slice none 0 0] 28) = W3 at S3 B3 ⊢
  generalize w2.heap.size = bw at S3 ⊢
  go_cut [7] (fun iv wx => LE lo bw lo 60 w wx)
  case first =>
    go_wp2_with fail
    go_loopw [7] (fun iv wr => LR lo bw lo len 60 w iv wr) (fun i _ => 60 - (intOf i).toNat)
    case atStart => exact ⟨⟨0, lo, false, [], .slice none 0 0, Nat.zero_le _, Nat.zero_le _, rfl, S3.out, Nat.le_refl _, B3.out⟩⟩
    case round =>
      obtain ⟨⟨j, rb, up, L, v, hj, hjt, rfl, hst, hll, hb⟩⟩ := hrel
      have HB := Lib.hid hb
      have HST := Lib.hid hst
      have HJ : Hid (j ≤ len ∧ j ≤ 60 ∧ L.length ≤ j) := ⟨hj, hjt, hll⟩
      obtain ⟨Av, cv, hv⟩ := hst.form
      obtain ⟨nv, hnv⟩ : ∃ nv, L.length = nv := ⟨_, rfl⟩
      rw [hnv] at hv
      subst hv
      have HLL : Hid (L.length = nv) := hnv
      clear hb hst hll hj hjt hnv
      by_cases hlt : j < len
      · by_cases h60 : j < 60
        · have hjI : (j : Int) < (len : Int) := by omega
          have hj60 : (j : Int) < 60 := by omega
          have HX : Hid (j < len ∧ j < 60) := ⟨hlt, h60⟩
          obtain ⟨hnx, b, off, x, cs, hax, hbl, hx, hR, _, hc⟩ := HR.out.at_ j hlt
          subst hax
          obtain ⟨ok, oi⟩ := x
          have hR : cs = [.int .i64 ok, .int .i64 oi] := hR
          subst hR
          have e0 : wr.cell? ⟨b, off + j * 2, none⟩ = some (.int .i64 ok) := cell_low HB.out (by have := HLO.out; omega) (hc 0 _ rfl)
          have e1 : wr.cell? ⟨b, off + j * 2 + 1, none⟩ = some (.int .i64 oi) := cell_low HB.out (by have := HLO.out; omega) (hc 1 _ rfl)
          have HBB : Hid (b ≠ lo ∧ b ≠ rb ∧ b ≠ bw) := by have h1 := HST.out.ev.low; have h2 := HST.out.ap; have := HLO.out; unfold Hid; omega
          clear hnx hbl hx hc
          clear hlt h60
          go_wp2_with fail
          refine wp_region_held_drew (S := (fun w' => w'.cell? ⟨b, off + j * 2, none⟩ = some (.int .i64 ok) ∧ w'.cell? ⟨b, off + j * 2 + 1, none⟩ = some (.int .i64 oi))) (by kernel_rfl) ?_ (fun hHeld => ?_)
          · exact ⟨e0, e1⟩
          refine takeD (i := 0) (d := some 31) (v := ?_) _ rfl rfl (by kernel_rfl) (by kernel_rfl) (by kernel_rfl) (fun _ _ _ h => h) (by rfl) ?_ (by assumption) ?_
          rotate_left
          · (intro w hSw; (try dsimp only at hSw); go_simp) <;> with_reducible rfl
          try simp only [Act.put, List.setIfInBounds_toArray, List.set_cons_zero, List.set_cons_succ]
          refine takeD (i := 2) (d := some 33) (v := ?_) _ rfl rfl (by kernel_rfl) (by kernel_rfl) (by kernel_rfl) (fun _ _ _ h => h) (by rfl) ?_ (by assumption) ?_
          rotate_left
          · (intro w hSw; (try dsimp only at hSw); go_simp) <;> with_reducible rfl
          try simp only [Act.put, List.setIfInBounds_toArray, List.set_cons_zero, List.set_cons_succ]
          refine takeD (i := 3) (d := some 34) (v := ?_) _ rfl rfl (by kernel_rfl) (by kernel_rfl) (by kernel_rfl) (fun _ _ _ h => h) (by rfl) ?_ (by assumption) ?_
          rotate_left
          · (intro w hSw; (try dsimp only at hSw); go_simp) <;> with_reducible rfl
          try simp only [Act.put, List.setIfInBounds_toArray, List.set_cons_zero, List.set_cons_succ]
          refine takeD (i := 4) (d := some 35) (v := ?_) _ rfl rfl (by kernel_rfl) (by kernel_rfl) (by kernel_rfl) (fun _ _ _ h => h) (by rfl) ?_ (by assumption) ?_
          rotate_left
          · (intro w hSw; (try dsimp only at hSw); go_simp) <;> with_reducible rfl
          try simp only [Act.put, List.setIfInBounds_toArray, List.set_cons_zero, List.set_cons_succ]
          refine takeD (i := 5) (d := some 36) (v := ?_) _ rfl rfl (by kernel_rfl) (by kernel_rfl) (by kernel_rfl) (fun _ _ _ h => h) (by rfl) ?_ (by assumption) ?_
          rotate_left
          · (intro w hSw; (try dsimp only at hSw); go_simp) <;> with_reducible rfl
          try simp only [Act.put, List.setIfInBounds_toArray, List.set_cons_zero, List.set_cons_succ]
          refine wpAnyH_ready (rs := [1]) (by kernel_rfl) (by simp) ?_
          refine AllReadyH.cons rfl (fun K hK => ?_) AllReadyH.nil
          have k0 : wr.drew.cell? ⟨bw, 0, none⟩ = some (.bool up) := by rw [(row_cell (w := wr.drew) HST.out.bx 0).1]; rfl
          have k1 : wr.drew.cell? ⟨bw, 1, none⟩ = some (.slice Av nv cv) := by rw [(row_cell (w := wr.drew) HST.out.bx 1).1]; rfl
          try go_simp
          refine hK.out _ _ ?_ (fun hHeld => ?_)
          · exact hHeld
          clear hK K
          try simp only [Act.put, List.setIfInBounds_toArray, List.set_cons_zero, List.set_cons_succ]
          refine wpAnyH_ready (rs := [6]) (by kernel_rfl) (by simp) ?_
          refine AllReadyH.cons rfl (fun K hK => ?_) AllReadyH.nil
          try go_simp
          go_at_call 11
          refine (do_any lo lo rb up L (.slice Av nv cv) (fun b => b ≠ lo ∧ b ≠ rb ∧ b ≠ bw) ok oi wr.drew (HST.out.ev.below (Below.refl _ _).drew) (HST.out.rl.keep_below (Below.refl _ _).drew) (fun b hb => ⟨hb.1, hb.2.1⟩) (by have := HLL.out; have := HJ.out; omega)).mono ?_
          rintro e w3 ⟨v3, rb3, up3, L3, rfl, r3, r4, r5, r6, r7⟩
          have hk0 := r5.ch.cell (by have := HBB.out; show b ≠ lo; omega) (by have := HBB.out; show b ≠ rb; omega) hHeld.1
          have hk1 := r5.ch.cell (by have := HBB.out; show b ≠ lo; omega) (by have := HBB.out; show b ≠ rb; omega) hHeld.2
          have NX := Lib.hid ((show ST lo bw wr.drew lo rb up L (.slice Av nv cv) from HST.out.below (Below.refl _ _).drew).next r3 r4 r5 (r6 HST.out.nu))
          have hbx : w3.heap[bw]? = some (.cells #[.bool up, .slice Av nv cv] 28 (0, 0)) := (r5.ch.block bw HST.out.blt HST.out.ap.1 HST.out.ap.2.1).trans HST.out.bx
          obtain ⟨Aw, nw, cw, rfl⟩ : ∃ A n c, v3 = .slice A n c := by
            obtain ⟨b, hb⟩ := r4.row
            obtain ⟨A, c, hb⟩ := slice_form hb.own
            exact ⟨A, _, c, hb⟩
          have m0 : w3.cell? ⟨bw, 0, none⟩ = some (.bool up) := by rw [(row_cell hbx 0).1]; rfl
          have m1 : w3.cell? ⟨bw, 1, none⟩ = some (.slice Av nv cv) := by rw [(row_cell hbx 1).1]; rfl
          have p0 : w3.frozen? ⟨bw, 0, none⟩ = false := (row_cell hbx 0).2
          have p1 : w3.frozen? ⟨bw, 1, none⟩ = false := (row_cell hbx 1).2
          have HL3 : Hid (L3.length ≤ j + 1) := by have := HJ.out; unfold Hid; omega
          clear r3 r4 r5 r6 r7 hbx
          try go_wp2_with fail
          refine hK.out _ _ ?_ (fun hHeld => ?_)
          · exact ⟨hk0, hk1⟩
          clear hK K
          try simp only [Act.put, List.setIfInBounds_toArray, List.set_cons_zero, List.set_cons_succ]
          refine takeD (i := 7) (d := some 30) (v := ?_) _ rfl rfl (by kernel_rfl) (by kernel_rfl) (by kernel_rfl) (fun _ _ _ h => h) (by rfl) ?_ (by assumption) ?_
          rotate_left
          · (intro w hSw; (try dsimp only at hSw); go_simp) <;> with_reducible rfl
          try simp only [Act.put, List.setIfInBounds_toArray, List.set_cons_zero, List.set_cons_succ]
          refine takeD (i := 8) (d := some 38) (v := ?_) _ rfl rfl (by kernel_rfl) (by kernel_rfl) (by kernel_rfl) (fun _ _ _ h => h) (by rfl) ?_ (by assumption) ?_
          rotate_left
          · (intro w hSw; (try dsimp only at hSw); go_simp) <;> with_reducible rfl
          try simp only [Act.put, List.setIfInBounds_toArray, List.set_cons_zero, List.set_cons_succ]
          refine takeD (i := 9) (d := some 39) (v := ?_) _ rfl rfl (by kernel_rfl) (by kernel_rfl) (by kernel_rfl) (fun _ _ _ h => h) (by rfl) ?_ (by assumption) ?_
          rotate_left
          · (intro w hSw; (try dsimp only at hSw); go_simp) <;> with_reducible rfl
          try simp only [Act.put, List.setIfInBounds_toArray, List.set_cons_zero, List.set_cons_succ]
          refine wpAnyH_ready (rs := [10]) (by kernel_rfl) (by simp) ?_
          refine AllReadyH.cons rfl (fun K hK => ?_) AllReadyH.nil
          try go_simp
          refine hK.out _ _ ?_ (fun hHeld => ?_)
          · exact ⟨by rw [World.cell?_setCell_other _ _ _ _ (by intro e; injection e with e e2; have := HBB.out; omega), World.cell?_setCell_other _ _ _ _ (by intro e; injection e with e e2; have := HBB.out; omega)]; exact hk0, by rw [World.cell?_setCell_other _ _ _ _ (by intro e; injection e with e e2; have := HBB.out; omega), World.cell?_setCell_other _ _ _ _ (by intro e; injection e with e e2; have := HBB.out; omega)]; exact hk1⟩
          clear hK K
          try simp only [Act.put, List.setIfInBounds_toArray, List.set_cons_zero, List.set_cons_succ]
          refine wpAnyH_done (by kernel_rfl) ?_ _
          clear hHeld
          have HB2 : Hid (Below lo w ((w3.setCell ⟨bw, 0, none⟩ (.bool up3)).setCell ⟨bw, 1, none⟩ (.slice Aw nw cw))) := HB.out.drew.trans NX.out.2
          go_wp2_with fail
          go_roundw
          case rel =>
            have Q : LR lo bw lo len 60 w (.int .i64 ((j : Int) + 1)) ((w3.setCell ⟨bw, 0, none⟩ (.bool up3)).setCell ⟨bw, 1, none⟩ (.slice Aw nw cw)) := ⟨⟨j + 1, rb3, up3, L3, .slice Aw nw cw, HX.out.1, HX.out.2, by go_num, NX.out.1, HL3.out, HB2.out⟩⟩
            first | exact Q | ((repeat apply Exists.intro); exact ⟨Q, rfl⟩)
          case measure => have := HX.out; simp [intOf]; omega
        · have hjI : (j : Int) < (len : Int) := by omega
          have hj60 : ¬ (j : Int) < 60 := by omega
          clear hlt h60
          go_wp2_with fail
          go_meet
          exact ⟨⟨rb, up, L, _, HST.out, by have := HJ.out; omega, HB.out⟩⟩
      · have hjI : ¬ (j : Int) < (len : Int) := by omega
        clear hlt
        go_wp2_with fail
        go_meet
        exact ⟨⟨rb, up, L, _, HST.out, by have := HJ.out; omega, HB.out⟩⟩
  case rest =>
    obtain ⟨w3, hw3⟩ : ∃ w', w' = wc := ⟨_, rfl⟩
    subst hw3
    obtain ⟨⟨rb, up, L, v, hst, hll, hb⟩⟩ := hcut
    have k1 : w3.cell? ⟨bw, 1, none⟩ = some v := by rw [(row_cell hst.bx 1).1]; rfl
    obtain ⟨rv, hrv⟩ := hst.rl.row
    have CH := Lib.hid (has_any v rv L id w3 hrv (by omega))
    have E3 := Lib.hid hst.ev
    have B4 := Lib.hid hb
    have HL := Lib.hid hll
    obtain ⟨Av, nv, cv, rfl⟩ : ∃ A n c, v = .slice A n c := by
      obtain ⟨A, c, hb⟩ := slice_form hrv.own
      exact ⟨A, _, c, hb⟩
    clear hst hll hb hrv S3 B3
    by_cases hx : id ∈ L
    · rw [decide_eq_true hx] at CH
      clear hx
      go_wp2_with fail
      refine CH.out.mono ?_
      rintro e w4 ⟨rfl, hw⟩
      have hw := hw.symm
      subst hw
      clear CH k1
      have HLL : Hid (L.length ≤ 1000) := by have := HL.out; unfold Hid; omega
      obtain ⟨s0, hs0⟩ : ∃ s0, w3.heap.size = s0 := ⟨_, rfl⟩
      have HS0 : Hid (lo ≤ s0) := by have := E3.out.lt; have := E3.out.low; unfold Hid; omega
      have CA := Lib.hid (clone_e lo lo rb up L w3 E3.out HLL.out)
      rw [hs0] at CA
      go_wp2_with fail
      refine CA.out.mono ?_
      rintro e x1 ⟨ga, ra, rfl, a1, y1⟩
      have A1 := Lib.hid a1
      have E1 : Hid (EV lo x1 lo rb up L) := E3.out.below (by rw [hs0]; exact y1)
      have Y1 : Hid (Below lo w x1) := B4.out.trans (y1.mono HS0.out)
      clear a1 y1 CA
      go_wp2_with fail
      refine (clone_e lo lo rb up L x1 E1.out HLL.out).mono ?_
      rintro e x2 ⟨gb, rbb, rfl, p2, y2⟩
      have P2 := Lib.hid p2
      have A2 := Lib.hid (A1.out.below y2)
      have AB := Lib.hid (Ap.new A1.out A1.out.lt.1 A1.out.lt.2 p2)
      have HS1 : Hid (lo ≤ x1.heap.size) := by have := A1.out.lt; have := A1.out.low; have := HS0.out; unfold Hid; omega
      have Y2 : Hid (Below lo w x2) := Y1.out.trans (y2.mono HS1.out)
      clear p2 y2 A1 E1 Y1
      go_wp2_with fail
      refine (set_any s0 ga ra up L x2 A2.out).mono ?_
      rintro e x3 ⟨As, ns, cs, rs, rfl, _, _, a3, n3⟩
      have A3 := Lib.hid a3
      have P3 := Lib.hid (P2.out.other n3 AB.out)
      have AB3 := Lib.hid (AB.out.step P2.out n3)
      have Y3 : Hid (Below lo w x3) := Y2.out.trans ((n3.below A2.out).mono HS0.out)
      have HS3 : Hid (lo ≤ x3.heap.size) := by have := A3.out.lt; have := A3.out.low; have := HS0.out; unfold Hid; omega
      clear a3 n3 A2 P2 AB Y2
      go_wp2_with fail
      refine (clone_e s0 ga ga true [] x3 A3.out (by simp)).mono ?_
      rintro e x4 ⟨gx, rx, rfl, q4, y4⟩
      have Q4 := Lib.hid q4
      have A4 := Lib.hid (A3.out.below y4)
      have P4 := Lib.hid (P3.out.below y4)
      have PX := Lib.hid (Ap.new P3.out P3.out.lt.1 P3.out.lt.2 q4)
      have AX := Lib.hid (Ap.new A3.out A3.out.lt.1 A3.out.lt.2 q4)
      have Y4 : Hid (Below lo w x4) := Y3.out.trans (y4.mono HS3.out)
      clear q4 y4 A3 P3 Y3
      go_wp2_with fail
      refine (reset_any _ gb rbb up L x4 P4.out).mono ?_
      rintro e x5 ⟨rfl, p5, n5⟩
      have P5 := Lib.hid p5
      have A5 := Lib.hid (A4.out.other n5 AB3.out.symm)
      have Q5 := Lib.hid (Q4.out.other n5 PX.out)
      have Y5 : Hid (Below lo w x5) := Y4.out.trans ((n5.below P4.out).mono HS1.out)
      clear p5 n5 A4 P4 Q4 Y4
      go_wp2_with fail
      refine (clone_e _ gb rbb false L x5 P5.out HLL.out).mono ?_
      rintro e x6 ⟨gy, ry, rfl, z6, y6⟩
      have Z6 := Lib.hid z6
      have A6 := Lib.hid (A5.out.below y6)
      have P6 := Lib.hid (P5.out.below y6)
      have Q6 := Lib.hid (Q5.out.below y6)
      have PZ := Lib.hid (Ap.new P5.out P5.out.lt.1 P5.out.lt.2 z6)
      have AZ := Lib.hid (Ap.new A5.out A5.out.lt.1 A5.out.lt.2 z6)
      have Y6 : Hid (Below lo w x6) := Y5.out.trans (y6.mono (by have := P5.out.lt; have := P5.out.low; have := HS1.out; omega))
      clear z6 y6 A5 P5 Q5 Y5
      go_wp2_with fail
      refine (reset_any _ gb rbb false L x6 P6.out).mono ?_
      rintro e x7 ⟨rfl, p7, n7⟩
      have P7 := Lib.hid p7
      have A7 := Lib.hid (A6.out.other n7 AB3.out.symm)
      have Q7 := Lib.hid (Q6.out.other n7 PX.out)
      have Z7 := Lib.hid (Z6.out.other n7 PZ.out)
      have Y7 : Hid (Below lo w x7) := Y6.out.trans ((n7.below P6.out).mono HS1.out)
      clear p7 n7 A6 P6 Q6 Z6 Y6
      go_wp2_with fail
      refine (set_any s0 ga ga true [] x7 A7.out).mono ?_
      rintro e x8 ⟨A8, n8, c8, r8, rfl, l8, _, a8, nx8⟩
      obtain ⟨A8', c8', hv8⟩ := slice_form l8.own
      injection hv8 with h1 h2 h3
      simp at h2
      subst h2
      have D8 := Lib.hid a8
      have P8 := Lib.hid (P7.out.other nx8 AB3.out)
      have Q8 := Lib.hid (Q7.out.other nx8 AX.out)
      have Z8 := Lib.hid (Z7.out.other nx8 AZ.out)
      have Y8 : Hid (Below lo w x8) := Y7.out.trans ((nx8.below A7.out).mono HS0.out)
      clear l8 a8 nx8 h1 h3 A7 P7 Q7 Z7 Y7
      go_wp2_with fail
      refine (same_any _ _ ga ga gx rx true true [] [] x8 D8.out Q8.out (by simp) (by simp)).mono ?_
      rintro e x9 ⟨he9, y9⟩
      rw [decide_eq_true rfl, decide_eq_true rfl] at he9
      subst he9
      have P9 := Lib.hid (P8.out.below y9)
      have Z9 := Lib.hid (Z8.out.below y9)
      have Y9 : Hid (Below lo w x9) := Y8.out.trans (y9.mono (by have := D8.out.lt; have := D8.out.low; have := HS0.out; omega))
      clear y9 D8 Q8 P8 Z8 Y8
      go_wp2_with fail
      refine (same_any _ _ gb rbb gy ry false false L L x9 P9.out Z9.out HLL.out HLL.out).mono ?_
      rintro e x10 ⟨he10, y10⟩
      rw [decide_eq_true rfl, decide_eq_true rfl] at he10
      subst he10
      have Y10 : Hid (Below lo w x10) := Y9.out.trans (y10.mono (by have := P9.out.lt; have := P9.out.low; have := HS1.out; omega))
      clear y10 P9 Z9 Y9
      go_wp2_with fail
      go_ret
      exact ⟨rfl, Y10.out⟩
    · rw [decide_eq_false hx] at CH
      have HO := Lib.hid (outI_same hx)
      obtain ⟨t, ht⟩ : ∃ t, decide (id ∈ L) = t := ⟨_, rfl⟩
      have htf : t = false := by rw [← ht]; exact decide_eq_false hx
      subst htf
      have HTF := Lib.hid ht
      clear hx ht
      go_wp2_with fail
      refine CH.out.mono ?_
      rintro e w4 ⟨rfl, hw⟩
      have hw := hw.symm
      subst hw
      clear CH k1
      go_wp2_with fail
      refine (clone_e lo lo rb up L w3 E3.out (by have := HL.out; omega)).mono ?_
      rintro e w4 ⟨gc, rc, rfl, c4, b4⟩
      have C4 := Lib.hid c4
      have E4 := Lib.hid (E3.out.below b4)
      have A4 := Lib.hid (Ap.new E3.out E3.out.lt.1 E3.out.lt.2 c4)
      have HS4 : Hid (lo ≤ w3.heap.size) := by have := E3.out.lt; have := E3.out.low; unfold Hid; omega
      have B5 : Hid (Below lo w w4) := B4.out.trans (b4.mono HS4.out)
      clear c4 b4
      go_wp2_with fail
      refine (drop_any _ gc rc up L id w4 C4.out (by have := HL.out; omega)).mono ?_
      rintro e w5 ⟨rfl, c5, n5⟩
      rw [HO.out] at c5
      have C5 := Lib.hid c5
      have E5 := Lib.hid (E4.out.other n5 A4.out.symm)
      have B6 : Hid (Below lo w w5) := B5.out.trans ((n5.below C4.out).mono HS4.out)
      clear c5 n5 C4 E4 B5
      rw [HTF.out]
      go_wp2_with fail
      refine (same_any _ _ gc rc lo rb up up L L w5 C5.out E5.out (by have := HL.out; omega) (by have := HL.out; omega)).mono ?_
      rintro e w6 ⟨he6, b6⟩
      rw [decide_eq_true rfl, decide_eq_true rfl] at he6
      subst he6
      have E6 := Lib.hid (E5.out.below b6)
      have B7 : Hid (Below lo w w6) := B6.out.trans (b6.mono (by have := E5.out.lt; have := E5.out.low; omega))
      clear b6 C5 E5 B6
      have HLL : Hid (L.length ≤ 1000) := by have := HL.out; unfold Hid; omega
      obtain ⟨s0, hs0⟩ : ∃ s0, w6.heap.size = s0 := ⟨_, rfl⟩
      have HS0 : Hid (lo ≤ s0) := by have := E6.out.lt; have := E6.out.low; unfold Hid; omega
      have CA := Lib.hid (clone_e lo lo rb up L w6 E6.out HLL.out)
      rw [hs0] at CA
      go_wp2_with fail
      refine CA.out.mono ?_
      rintro e x1 ⟨ga, ra, rfl, a1, y1⟩
      have A1 := Lib.hid a1
      have E1 : Hid (EV lo x1 lo rb up L) := E6.out.below (by rw [hs0]; exact y1)
      have Y1 : Hid (Below lo w x1) := B7.out.trans (y1.mono HS0.out)
      clear a1 y1 CA
      go_wp2_with fail
      refine (clone_e lo lo rb up L x1 E1.out HLL.out).mono ?_
      rintro e x2 ⟨gb, rbb, rfl, p2, y2⟩
      have P2 := Lib.hid p2
      have A2 := Lib.hid (A1.out.below y2)
      have AB := Lib.hid (Ap.new A1.out A1.out.lt.1 A1.out.lt.2 p2)
      have HS1 : Hid (lo ≤ x1.heap.size) := by have := A1.out.lt; have := A1.out.low; have := HS0.out; unfold Hid; omega
      have Y2 : Hid (Below lo w x2) := Y1.out.trans (y2.mono HS1.out)
      clear p2 y2 A1 E1 Y1
      go_wp2_with fail
      refine (set_any s0 ga ra up L x2 A2.out).mono ?_
      rintro e x3 ⟨As, ns, cs, rs, rfl, _, _, a3, n3⟩
      have A3 := Lib.hid a3
      have P3 := Lib.hid (P2.out.other n3 AB.out)
      have AB3 := Lib.hid (AB.out.step P2.out n3)
      have Y3 : Hid (Below lo w x3) := Y2.out.trans ((n3.below A2.out).mono HS0.out)
      have HS3 : Hid (lo ≤ x3.heap.size) := by have := A3.out.lt; have := A3.out.low; have := HS0.out; unfold Hid; omega
      clear a3 n3 A2 P2 AB Y2
      go_wp2_with fail
      refine (clone_e s0 ga ga true [] x3 A3.out (by simp)).mono ?_
      rintro e x4 ⟨gx, rx, rfl, q4, y4⟩
      have Q4 := Lib.hid q4
      have A4 := Lib.hid (A3.out.below y4)
      have P4 := Lib.hid (P3.out.below y4)
      have PX := Lib.hid (Ap.new P3.out P3.out.lt.1 P3.out.lt.2 q4)
      have AX := Lib.hid (Ap.new A3.out A3.out.lt.1 A3.out.lt.2 q4)
      have Y4 : Hid (Below lo w x4) := Y3.out.trans (y4.mono HS3.out)
      clear q4 y4 A3 P3 Y3
      go_wp2_with fail
      refine (reset_any _ gb rbb up L x4 P4.out).mono ?_
      rintro e x5 ⟨rfl, p5, n5⟩
      have P5 := Lib.hid p5
      have A5 := Lib.hid (A4.out.other n5 AB3.out.symm)
      have Q5 := Lib.hid (Q4.out.other n5 PX.out)
      have Y5 : Hid (Below lo w x5) := Y4.out.trans ((n5.below P4.out).mono HS1.out)
      clear p5 n5 A4 P4 Q4 Y4
      go_wp2_with fail
      refine (clone_e _ gb rbb false L x5 P5.out HLL.out).mono ?_
      rintro e x6 ⟨gy, ry, rfl, z6, y6⟩
      have Z6 := Lib.hid z6
      have A6 := Lib.hid (A5.out.below y6)
      have P6 := Lib.hid (P5.out.below y6)
      have Q6 := Lib.hid (Q5.out.below y6)
      have PZ := Lib.hid (Ap.new P5.out P5.out.lt.1 P5.out.lt.2 z6)
      have AZ := Lib.hid (Ap.new A5.out A5.out.lt.1 A5.out.lt.2 z6)
      have Y6 : Hid (Below lo w x6) := Y5.out.trans (y6.mono (by have := P5.out.lt; have := P5.out.low; have := HS1.out; omega))
      clear z6 y6 A5 P5 Q5 Y5
      go_wp2_with fail
      refine (reset_any _ gb rbb false L x6 P6.out).mono ?_
      rintro e x7 ⟨rfl, p7, n7⟩
      have P7 := Lib.hid p7
      have A7 := Lib.hid (A6.out.other n7 AB3.out.symm)
      have Q7 := Lib.hid (Q6.out.other n7 PX.out)
      have Z7 := Lib.hid (Z6.out.other n7 PZ.out)
      have Y7 : Hid (Below lo w x7) := Y6.out.trans ((n7.below P6.out).mono HS1.out)
      clear p7 n7 A6 P6 Q6 Z6 Y6
      go_wp2_with fail
      refine (set_any s0 ga ga true [] x7 A7.out).mono ?_
      rintro e x8 ⟨A8, n8, c8, r8, rfl, l8, _, a8, nx8⟩
      obtain ⟨A8', c8', hv8⟩ := slice_form l8.own
      injection hv8 with h1 h2 h3
      simp at h2
      subst h2
      have D8 := Lib.hid a8
      have P8 := Lib.hid (P7.out.other nx8 AB3.out)
      have Q8 := Lib.hid (Q7.out.other nx8 AX.out)
      have Z8 := Lib.hid (Z7.out.other nx8 AZ.out)
      have Y8 : Hid (Below lo w x8) := Y7.out.trans ((nx8.below A7.out).mono HS0.out)
      clear l8 a8 nx8 h1 h3 A7 P7 Q7 Z7 Y7
      go_wp2_with fail
      refine (same_any _ _ ga ga gx rx true true [] [] x8 D8.out Q8.out (by simp) (by simp)).mono ?_
      rintro e x9 ⟨he9, y9⟩
      rw [decide_eq_true rfl, decide_eq_true rfl] at he9
      subst he9
      have P9 := Lib.hid (P8.out.below y9)
      have Z9 := Lib.hid (Z8.out.below y9)
      have Y9 : Hid (Below lo w x9) := Y8.out.trans (y9.mono (by have := D8.out.lt; have := D8.out.low; have := HS0.out; omega))
      clear y9 D8 Q8 P8 Z8 Y8
      go_wp2_with fail
      refine (same_any _ _ gb rbb gy ry false false L L x9 P9.out Z9.out HLL.out HLL.out).mono ?_
      rintro e x10 ⟨he10, y10⟩
      rw [decide_eq_true rfl, decide_eq_true rfl] at he10
      subst he10
      have Y10 : Hid (Below lo w x10) := Y9.out.trans (y10.mono (by have := P9.out.lt; have := P9.out.low; have := HS1.out; omega))
      clear y10 P9 Z9 Y9
      go_wp2_with fail
      go_ret
      exact ⟨rfl, Y10.out⟩
end Go.Proofs.Ytehlgfflbbfjkaa.E
