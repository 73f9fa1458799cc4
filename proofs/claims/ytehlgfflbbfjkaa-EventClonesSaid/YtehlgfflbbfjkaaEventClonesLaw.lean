/-
  EventClones's walk. Each statement bears its own conditions.
-/
import Derived.Test.YtehlgfflbbfjkaaEvS
import Derived.LaidEqlPtr
namespace Go.Proofs.Ytehlgfflbbfjkaa.E
open Go.RowKit Go.Proofs.Ytehlgfflbbfjkaa.I
set_option linter.unusedVariables false
set_option linter.unusedSimpArgs false
theorem heap_of_cell {w : World} {g o : Nat} {v : Value} (h : w.cell? ⟨g, o, none⟩ = some v) : ∃ C t fr, w.heap[g]? = some (.cells C t fr) := by
  unfold World.cell? at h
  cases e : w.heap[g]? with
  | none => simp [e] at h
  | some ob =>
    cases ob with
    | cells C t fr => exact ⟨C, t, fr, rfl⟩
    | _ => simp [e] at h
theorem run_sameAddr_far {P : Program} {w : World} {g1 g2 o1 o2 : Nat} {v1 v2 : Value} (hbl : g1 ≠ g2) (c1 : w.cell? ⟨g1, o1, none⟩ = some v1) (c2 : w.cell? ⟨g2, o2, none⟩ = some v2) (f1 : ∀ o, w.frozen? ⟨g1, o, none⟩ = false) (f2 : ∀ o, w.frozen? ⟨g2, o, none⟩ = false) :
    (sameAddr ⟨g1, 0, none⟩ ⟨g2, 0, none⟩).run P w = .ok false w := by
  obtain ⟨C1, t1, r1, h1⟩ := heap_of_cell c1
  obtain ⟨C2, t2, r2, h2⟩ := heap_of_cell c2
  simp [sameAddr, hbl, noView, viewAt, World.shape?, mayBeOne, stringish, h1, h2, f1, f2]
theorem ptr_info : (Try.prog.info? 45).map (fun i => (i.zero.isSome, i.size, 0)) = some (true, 2, 0) := by kernel_rfl
theorem run_ptr_far {w : World} {g1 g2 o1 o2 : Nat} {v1 v2 : Value} (hbl : g1 ≠ g2) (c1 : w.cell? ⟨g1, o1, none⟩ = some v1) (c2 : w.cell? ⟨g2, o2, none⟩ = some v2) (f1 : ∀ o, w.frozen? ⟨g1, o, none⟩ = false) (f2 : ∀ o, w.frozen? ⟨g2, o, none⟩ = false) :
    (binOp .eql 23 (.pointer (some ⟨g1, 0, none⟩)) (.pointer (some ⟨g2, 0, none⟩))).run Try.prog w = .ok (.bool false) w := by
  have hp : Try.prog.underlying 23 = some (.pointer 45) := Try.underlying23
  have h0 := ptr_info
  cases hte : Try.prog.info? 45 with
  | none => rw [hte] at h0; simp at h0
  | some j =>
    rw [hte] at h0
    simp only [Option.map_some, Option.some.injEq, Prod.mk.injEq] at h0
    have hsz : j.size ≠ 0 := by omega
    have h : ∀ d : Nat, (Op.equalIn (d + 1) 23 (.pointer (some ⟨g1, 0, none⟩)) (.pointer (some ⟨g2, 0, none⟩))).run Try.prog w = .ok false w := fun d => by
      simp [Op.equalIn, run_underlying hp, sizeOf, typeInfo, hte, hsz, run_sameAddr_far hbl c1 c2 f1 f2]
    simp only [binOp]
    simp [Op.equal, Op.maxDepth, h 9999]
set_option maxRecDepth 100000 in
set_option maxHeartbeats 8000000 in
theorem clones_walk (a : Option Addr) (len cap : Nat) (a1 : Option Addr) (len1 cap1 : Nat) (xs ys : List OP) (w : World) (h0 : Row w 2 RO (.slice a len cap) xs) (h1 : Row w 2 RO (.slice a1 len1 cap1) ys) : Calls Try.prog 5 #[.slice a len cap, .slice a1 len1 cap1] w fun e w' => e = .returned (.bool true) ∧ Below w.heap.size w w' := by
  have HR := Lib.hid h0
  have HR1 := Lib.hid h1
  have HNM : Hid (len ≤ 8796093021952 ∧ len1 ≤ 8796093021952) := by
    obtain ⟨a', cap', e, hm⟩ := h0.form
    injection e with e1 e2 e3
    obtain ⟨b', cbp', e', hm'⟩ := h1.form
    injection e' with e1' e2' e3'
    unfold rowMax at hm hm'
    unfold Hid; omega
  clear h0 h1
  have he : ∀ (x : Nat) (w : World), (binOp .eql 23 (.pointer (some ⟨x, 0, none⟩)) (.pointer none)).run Try.prog w = .ok (.bool false) w := fun _ _ => rfl
  obtain ⟨lo, hlo⟩ : ∃ lo, w.heap.size = lo := ⟨_, rfl⟩
  have NW := Lib.hid (new_any w)
  have HLO : Hid (lo ≤ w.heap.size ∧ w.heap.size ≤ lo) := by unfold Hid; omega
  rw [hlo] at NW ⊢
  clear hlo
  go_enter Try.func5, Try.ntmps5
  go_wp2_with fail
  refine NW.out.mono ?_
  rintro e w1 ⟨rfl, q1, b1⟩
  have Q1 := Lib.hid q1
  have B1 := Lib.hid b1
  clear q1 b1 NW
  go_wp2_with fail
  refine (told_any w1).mono ?_
  rintro e w2 ⟨rfl, b2⟩
  have Q2 : Hid (EV lo w2 lo lo false []) := Q1.out.below b2
  have B2 : Hid (Below lo w w2) := B1.out.trans (b2.mono (by have := Q1.out.lt; omega))
  clear b2 Q1 B1
  go_upto_block 0 with fail
  have S3 : Hid (ST lo w2.heap.size (w2.alloc (.cells #[.bool false, .slice none 0 0] 28)) lo lo false [] (.slice none 0 0)) := ST.start Q2.out
  have B3 : Hid (Below lo w (w2.alloc (.cells #[.bool false, .slice none 0 0] 28))) := B2.out.alloc (by have := Q2.out.lt; omega) _
  clear Q2 B2
  generalize w2.alloc (.cells #[.bool false, .slice none 0 0] 28) = W3 at S3 B3 ⊢
  generalize w2.heap.size = bw at S3 ⊢
  go_cut [7] (fun iv wx => LE lo bw lo 60 w wx)
  case first =>
    go_wp2_with fail
    go_loopw [7] (fun iv wr => LR lo bw lo len 60 w iv wr) (fun i _ => 60 - (intOf i).toNat)
    case atStart => exact ⟨⟨0, lo, false, [], .slice none 0 0, Nat.zero_le _, Nat.zero_le _, rfl, S3.out, Nat.le_refl _, B3.out⟩⟩
    case round =>
      obtain ⟨⟨j, rb, up, L, v, hj, hjt, rfl, hst, hll, hb⟩⟩ := hrel
      have HB := Lib.hid hb
      have HST := Lib.hid hst
      have HJ : Hid (j ≤ len ∧ j ≤ 60 ∧ L.length ≤ j) := ⟨hj, hjt, hll⟩
      obtain ⟨Av, cv, hv⟩ := hst.form
      obtain ⟨nv, hnv⟩ : ∃ nv, L.length = nv := ⟨_, rfl⟩
      rw [hnv] at hv
      subst hv
      have HLL : Hid (L.length = nv) := hnv
      clear hb hst hll hj hjt hnv
      by_cases hlt : j < len
      · by_cases h60 : j < 60
        · have hjI : (j : Int) < (len : Int) := by omega
          have hj60 : (j : Int) < 60 := by omega
          have HX : Hid (j < len ∧ j < 60) := ⟨hlt, h60⟩
          obtain ⟨hnx, b, off, x, cs, hax, hbl, hx, hR, _, hc⟩ := HR.out.at_ j hlt
          subst hax
          obtain ⟨ok, oi⟩ := x
          have hR : cs = [.int .i64 ok, .int .i64 oi] := hR
          subst hR
          have e0 : wr.cell? ⟨b, off + j * 2, none⟩ = some (.int .i64 ok) := cell_low HB.out (by have := HLO.out; omega) (hc 0 _ rfl)
          have e1 : wr.cell? ⟨b, off + j * 2 + 1, none⟩ = some (.int .i64 oi) := cell_low HB.out (by have := HLO.out; omega) (hc 1 _ rfl)
          have HBB : Hid (b ≠ lo ∧ b ≠ rb ∧ b ≠ bw) := by have h1 := HST.out.ev.low; have h2 := HST.out.ap; have := HLO.out; unfold Hid; omega
          clear hnx hbl hx hc
          clear hlt h60
          go_wp2_with fail
          refine wp_region_held_drew (S := (fun w' => w'.cell? ⟨b, off + j * 2, none⟩ = some (.int .i64 ok) ∧ w'.cell? ⟨b, off + j * 2 + 1, none⟩ = some (.int .i64 oi))) (by kernel_rfl) ?_ (fun hHeld => ?_)
          · exact ⟨e0, e1⟩
          refine takeD (i := 0) (d := some 30) (v := ?_) _ rfl rfl (by kernel_rfl) (by kernel_rfl) (by kernel_rfl) (fun _ _ _ h => h) (by rfl) ?_ (by assumption) ?_
          rotate_left
          · (intro w hSw; (try dsimp only at hSw); go_simp) <;> with_reducible rfl
          try simp only [Act.put, List.setIfInBounds_toArray, List.set_cons_zero, List.set_cons_succ]
          refine takeD (i := 2) (d := some 32) (v := ?_) _ rfl rfl (by kernel_rfl) (by kernel_rfl) (by kernel_rfl) (fun _ _ _ h => h) (by rfl) ?_ (by assumption) ?_
          rotate_left
          · (intro w hSw; (try dsimp only at hSw); go_simp) <;> with_reducible rfl
          try simp only [Act.put, List.setIfInBounds_toArray, List.set_cons_zero, List.set_cons_succ]
          refine takeD (i := 3) (d := some 33) (v := ?_) _ rfl rfl (by kernel_rfl) (by kernel_rfl) (by kernel_rfl) (fun _ _ _ h => h) (by rfl) ?_ (by assumption) ?_
          rotate_left
          · (intro w hSw; (try dsimp only at hSw); go_simp) <;> with_reducible rfl
          try simp only [Act.put, List.setIfInBounds_toArray, List.set_cons_zero, List.set_cons_succ]
          refine takeD (i := 4) (d := some 34) (v := ?_) _ rfl rfl (by kernel_rfl) (by kernel_rfl) (by kernel_rfl) (fun _ _ _ h => h) (by rfl) ?_ (by assumption) ?_
          rotate_left
          · (intro w hSw; (try dsimp only at hSw); go_simp) <;> with_reducible rfl
          try simp only [Act.put, List.setIfInBounds_toArray, List.set_cons_zero, List.set_cons_succ]
          refine takeD (i := 5) (d := some 35) (v := ?_) _ rfl rfl (by kernel_rfl) (by kernel_rfl) (by kernel_rfl) (fun _ _ _ h => h) (by rfl) ?_ (by assumption) ?_
          rotate_left
          · (intro w hSw; (try dsimp only at hSw); go_simp) <;> with_reducible rfl
          try simp only [Act.put, List.setIfInBounds_toArray, List.set_cons_zero, List.set_cons_succ]
          refine wpAnyH_ready (rs := [1]) (by kernel_rfl) (by simp) ?_
          refine AllReadyH.cons rfl (fun K hK => ?_) AllReadyH.nil
          have k0 : wr.drew.cell? ⟨bw, 0, none⟩ = some (.bool up) := by rw [(row_cell (w := wr.drew) HST.out.bx 0).1]; rfl
          have k1 : wr.drew.cell? ⟨bw, 1, none⟩ = some (.slice Av nv cv) := by rw [(row_cell (w := wr.drew) HST.out.bx 1).1]; rfl
          try go_simp
          refine hK.out _ _ ?_ (fun hHeld => ?_)
          · exact hHeld
          clear hK K
          try simp only [Act.put, List.setIfInBounds_toArray, List.set_cons_zero, List.set_cons_succ]
          refine wpAnyH_ready (rs := [6]) (by kernel_rfl) (by simp) ?_
          refine AllReadyH.cons rfl (fun K hK => ?_) AllReadyH.nil
          try go_simp
          go_at_call 11
          refine (do_any lo lo rb up L (.slice Av nv cv) (fun b => b ≠ lo ∧ b ≠ rb ∧ b ≠ bw) ok oi wr.drew (HST.out.ev.below (Below.refl _ _).drew) (HST.out.rl.keep_below (Below.refl _ _).drew) (fun b hb => ⟨hb.1, hb.2.1⟩) (by have := HLL.out; have := HJ.out; omega)).mono ?_
          rintro e w3 ⟨v3, rb3, up3, L3, rfl, r3, r4, r5, r6, r7⟩
          have hk0 := r5.ch.cell (by have := HBB.out; show b ≠ lo; omega) (by have := HBB.out; show b ≠ rb; omega) hHeld.1
          have hk1 := r5.ch.cell (by have := HBB.out; show b ≠ lo; omega) (by have := HBB.out; show b ≠ rb; omega) hHeld.2
          have NX := Lib.hid ((show ST lo bw wr.drew lo rb up L (.slice Av nv cv) from HST.out.below (Below.refl _ _).drew).next r3 r4 r5 (r6 HST.out.nu))
          have hbx : w3.heap[bw]? = some (.cells #[.bool up, .slice Av nv cv] 28 (0, 0)) := (r5.ch.block bw HST.out.blt HST.out.ap.1 HST.out.ap.2.1).trans HST.out.bx
          obtain ⟨Aw, nw, cw, rfl⟩ : ∃ A n c, v3 = .slice A n c := by
            obtain ⟨b, hb⟩ := r4.row
            obtain ⟨A, c, hb⟩ := slice_form hb.own
            exact ⟨A, _, c, hb⟩
          have m0 : w3.cell? ⟨bw, 0, none⟩ = some (.bool up) := by rw [(row_cell hbx 0).1]; rfl
          have m1 : w3.cell? ⟨bw, 1, none⟩ = some (.slice Av nv cv) := by rw [(row_cell hbx 1).1]; rfl
          have p0 : w3.frozen? ⟨bw, 0, none⟩ = false := (row_cell hbx 0).2
          have p1 : w3.frozen? ⟨bw, 1, none⟩ = false := (row_cell hbx 1).2
          have HL3 : Hid (L3.length ≤ j + 1) := by have := HJ.out; unfold Hid; omega
          clear r3 r4 r5 r6 r7 hbx
          try go_wp2_with fail
          refine hK.out _ _ ?_ (fun hHeld => ?_)
          · exact ⟨hk0, hk1⟩
          clear hK K
          try simp only [Act.put, List.setIfInBounds_toArray, List.set_cons_zero, List.set_cons_succ]
          refine takeD (i := 7) (d := some 29) (v := ?_) _ rfl rfl (by kernel_rfl) (by kernel_rfl) (by kernel_rfl) (fun _ _ _ h => h) (by rfl) ?_ (by assumption) ?_
          rotate_left
          · (intro w hSw; (try dsimp only at hSw); go_simp) <;> with_reducible rfl
          try simp only [Act.put, List.setIfInBounds_toArray, List.set_cons_zero, List.set_cons_succ]
          refine takeD (i := 8) (d := some 37) (v := ?_) _ rfl rfl (by kernel_rfl) (by kernel_rfl) (by kernel_rfl) (fun _ _ _ h => h) (by rfl) ?_ (by assumption) ?_
          rotate_left
          · (intro w hSw; (try dsimp only at hSw); go_simp) <;> with_reducible rfl
          try simp only [Act.put, List.setIfInBounds_toArray, List.set_cons_zero, List.set_cons_succ]
          refine takeD (i := 9) (d := some 38) (v := ?_) _ rfl rfl (by kernel_rfl) (by kernel_rfl) (by kernel_rfl) (fun _ _ _ h => h) (by rfl) ?_ (by assumption) ?_
          rotate_left
          · (intro w hSw; (try dsimp only at hSw); go_simp) <;> with_reducible rfl
          try simp only [Act.put, List.setIfInBounds_toArray, List.set_cons_zero, List.set_cons_succ]
          refine wpAnyH_ready (rs := [10]) (by kernel_rfl) (by simp) ?_
          refine AllReadyH.cons rfl (fun K hK => ?_) AllReadyH.nil
          try go_simp
          refine hK.out _ _ ?_ (fun hHeld => ?_)
          · exact ⟨by rw [World.cell?_setCell_other _ _ _ _ (by intro e; injection e with e e2; have := HBB.out; omega), World.cell?_setCell_other _ _ _ _ (by intro e; injection e with e e2; have := HBB.out; omega)]; exact hk0, by rw [World.cell?_setCell_other _ _ _ _ (by intro e; injection e with e e2; have := HBB.out; omega), World.cell?_setCell_other _ _ _ _ (by intro e; injection e with e e2; have := HBB.out; omega)]; exact hk1⟩
          clear hK K
          try simp only [Act.put, List.setIfInBounds_toArray, List.set_cons_zero, List.set_cons_succ]
          refine wpAnyH_done (by kernel_rfl) ?_ _
          clear hHeld
          have HB2 : Hid (Below lo w ((w3.setCell ⟨bw, 0, none⟩ (.bool up3)).setCell ⟨bw, 1, none⟩ (.slice Aw nw cw))) := HB.out.drew.trans NX.out.2
          go_wp2_with fail
          go_roundw
          case rel =>
            have Q : LR lo bw lo len 60 w (.int .i64 ((j : Int) + 1)) ((w3.setCell ⟨bw, 0, none⟩ (.bool up3)).setCell ⟨bw, 1, none⟩ (.slice Aw nw cw)) := ⟨⟨j + 1, rb3, up3, L3, .slice Aw nw cw, HX.out.1, HX.out.2, by go_num, NX.out.1, HL3.out, HB2.out⟩⟩
            first | exact Q | ((repeat apply Exists.intro); exact ⟨Q, rfl⟩)
          case measure => have := HX.out; simp [intOf]; omega
        · have hjI : (j : Int) < (len : Int) := by omega
          have hj60 : ¬ (j : Int) < 60 := by omega
          clear hlt h60
          go_wp2_with fail
          go_meet
          exact ⟨⟨rb, up, L, _, HST.out, by have := HJ.out; omega, HB.out⟩⟩
      · have hjI : ¬ (j : Int) < (len : Int) := by omega
        clear hlt
        go_wp2_with fail
        go_meet
        exact ⟨⟨rb, up, L, _, HST.out, by have := HJ.out; omega, HB.out⟩⟩
  case rest =>
    obtain ⟨w3, hw3⟩ : ∃ w', w' = wc := ⟨_, rfl⟩
    subst hw3
    obtain ⟨⟨rbe, ue, Le, v, hst, hll, hb⟩⟩ := hcut
    obtain ⟨Ae, ne, ce, rfl⟩ : ∃ A n c, v = .slice A n c := by
      obtain ⟨A, c, hb⟩ := hst.form
      exact ⟨A, _, c, hb⟩
    have S4 := Lib.hid hst
    have B4 := Lib.hid hb
    have HLE : Hid (Le.length ≤ 60) := hll
    clear hst hll hb S3 B3
    obtain ⟨B, hB⟩ : ∃ B, w3.heap.size = B := ⟨_, rfl⟩
    have HB3 : Hid (w3.heap.size = B) := hB
    have HBL : Hid (lo ≤ B) := by have := S4.out.ev.lt; have := S4.out.ev.low; unfold Hid; omega
    have CL := Lib.hid (clone_e lo lo rbe ue Le w3 S4.out.ev (by have := HLE.out; omega))
    rw [hB] at CL
    clear hB
    go_wp2_with fail
    refine CL.out.mono ?_
    rintro e w4 ⟨gc, rc, rfl, c4, b4⟩
    have b4' : Below w3.heap.size w3 w4 := by rw [HB3.out]; exact b4
    have C4 := Lib.hid c4
    have S5 := Lib.hid (S4.out.below b4')
    have B5 : Hid (Below lo w w4) := B4.out.trans (b4.mono HBL.out)
    have HG : Hid (lo < B ∧ rbe < B ∧ bw < B ∧ B ≤ gc ∧ B ≤ rc) := by have h1 := S4.out.ev.lt; have h2 := S4.out.blt; have h3 := c4.low; have h4 := HB3.out; unfold Hid; omega
    have RE4 : Hid (Rl w4 (.slice Ae ne ce) (fun b => b < B) Le) := (S4.out.rl.below b4').imp fun b _ h => by have := HB3.out; omega
    obtain ⟨fg1, fg2⟩ : (∃ v1, w4.cell? ⟨gc, 0, none⟩ = some v1) ∧ (∀ o, w4.frozen? ⟨gc, o, none⟩ = false) := by
      obtain ⟨v1, hv1, _⟩ := C4.out.ex
      exact ⟨⟨_, by rw [(row_cell hv1 0).1]; rfl⟩, fun o => (row_cell hv1 o).2⟩
    obtain ⟨fe1, fe2⟩ : (∃ v1, w4.cell? ⟨lo, 0, none⟩ = some v1) ∧ (∀ o, w4.frozen? ⟨lo, o, none⟩ = false) := by
      obtain ⟨v1, hv1, _⟩ := S5.out.ev.ex
      exact ⟨⟨_, by rw [(row_cell hv1 0).1]; rfl⟩, fun o => (row_cell hv1 o).2⟩
    obtain ⟨ug1, fg1⟩ := fg1
    obtain ⟨ue1, fe1⟩ := fe1
    have hpp := run_ptr_far (w := w4) (g1 := gc) (g2 := lo) (by have := HG.out; omega) fg1 fe1 fg2 fe2
    clear c4 b4 b4' CL S4 B4 fg1 fg2 fe1 fe2
    go_wp2_with fail
    refine (same_any _ _ gc rc lo rbe ue ue Le Le w4 C4.out S5.out.ev (by have := HLE.out; omega) (by have := HLE.out; omega)).mono ?_
    rintro e w5 ⟨he5, b5⟩
    rw [decide_eq_true rfl, decide_eq_true rfl] at he5
    subst he5
    have C5 := Lib.hid (C4.out.below b5)
    have S6 := Lib.hid (S5.out.below b5)
    have RE5 := Lib.hid (RE4.out.keep_below b5)
    have HS4 : Hid (lo ≤ w4.heap.size ∧ B ≤ w4.heap.size) := by have := C4.out.lt; have := C4.out.low; have := HBL.out; unfold Hid; omega
    have B6 : Hid (Below lo w w5) := B5.out.trans (b5.mono HS4.out.1)
    have HS5 : Hid (w4.heap.size ≤ w5.heap.size) := b5.size
    clear b5 C4 S5 B5 RE4 hpp
    go_wp2_with fail
    refine (same_any _ _ lo rbe gc rc ue ue Le Le w5 S6.out.ev C5.out (by have := HLE.out; omega) (by have := HLE.out; omega)).mono ?_
    rintro e w6 ⟨he6, b6⟩
    rw [decide_eq_true rfl, decide_eq_true rfl] at he6
    subst he6
    have C6 := Lib.hid (C5.out.below b6)
    have S7 := Lib.hid (S6.out.below b6)
    have RE6 := Lib.hid (RE5.out.keep_below b6)
    have B7 : Hid (Below lo w w6) := B6.out.trans (b6.mono (by have := HS4.out; have := HS5.out; omega))
    have HS6 : Hid (B ≤ w6.heap.size) := by have := HS4.out; have := HS5.out; have := b6.size; unfold Hid; omega
    clear b6 C5 S6 B6 RE5 HS4 HS5
    go_wp2_with fail
    refine (same_nil2 _ _).mono ?_
    rintro e w7 ⟨rfl, hw⟩
    have hw := hw.symm
    subst hw
    have k0 : w6.cell? ⟨bw, 0, none⟩ = some (.bool ue) := by rw [(row_cell S7.out.bx 0).1]; rfl
    have k1 : w6.cell? ⟨bw, 1, none⟩ = some (.slice Ae ne ce) := by rw [(row_cell S7.out.bx 1).1]; rfl
    go_upto_block 2 with fail
    have BW : Below w6.heap.size w6 (w6.alloc (.cells #[.bool ue, .slice Ae ne ce] 28)) := (Below.refl _ _).alloc (Nat.le_refl _) _
    have SX : Hid (ST B w6.heap.size (w6.alloc (.cells #[.bool ue, .slice Ae ne ce] 28)) gc rc ue Le (.slice Ae ne ce)) :=
      ⟨C6.out.below BW, heap_alloc_new _ _, by have h1 := C6.out.lt; have h2 := HS6.out; omega, (RE6.out.keep_below BW).imp fun b _ h => (by have h1 := HG.out; have h2 := HS6.out; omega), S7.out.nu⟩
    have B5 : Hid (Below lo w (w6.alloc (.cells #[.bool ue, .slice Ae ne ce] 28))) := B7.out.trans (BW.mono (by have := HS6.out; have := HBL.out; omega))
    have E5 := Lib.hid (S7.out.ev.below BW)
    have E5B : Hid (lo < B ∧ rbe < B ∧ bw < B) := by have := HG.out; unfold Hid; omega
    have BX5 : Hid ((w6.alloc (.cells #[.bool ue, .slice Ae ne ce] 28)).heap[bw]? = some (.cells #[.bool ue, .slice Ae ne ce] 28 (0, 0))) := (BW.block bw S7.out.blt).trans S7.out.bx
    have RE5 := Lib.hid (RE6.out.keep_below BW)
    have HB5 : Hid (B ≤ (w6.alloc (.cells #[.bool ue, .slice Ae ne ce] 28)).heap.size) := by have := HS6.out; have := BW.size; unfold Hid; omega
    clear k0 k1 BW C6 S7 RE6 B7
    generalize w6.alloc (.cells #[.bool ue, .slice Ae ne ce] 28) = W5 at SX B5 E5 BX5 RE5 HB5 ⊢
    generalize w6.heap.size = bx at SX ⊢
    go_wp2_with fail
    go_loopw [10] (fun iv wr => LR2 Le.length B bx gc len1 60 W5 iv wr) (fun i _ => 60 - (intOf i).toNat)
    case atStart => exact ⟨⟨0, rc, ue, Le, .slice Ae ne ce, Nat.zero_le _, Nat.zero_le _, rfl, SX.out, by omega, Below.refl _ _⟩⟩
    case round =>
      obtain ⟨⟨j, rb, up, L, v, hj, hjt, rfl, hst, hll, hb⟩⟩ := hrel
      have HB := Lib.hid hb
      have HST := Lib.hid hst
      have HJ : Hid (j ≤ len1 ∧ j ≤ 60 ∧ L.length ≤ Le.length + j) := ⟨hj, hjt, hll⟩
      obtain ⟨Av, cv, hv⟩ := hst.form
      obtain ⟨nv, hnv⟩ : ∃ nv, L.length = nv := ⟨_, rfl⟩
      rw [hnv] at hv
      subst hv
      have HLL : Hid (L.length = nv) := hnv
      clear hb hst hll hj hjt hnv
      by_cases hlt : j < len1
      · by_cases h60 : j < 60
        · have hjI : (j : Int) < (len1 : Int) := by omega
          have hj60 : (j : Int) < 60 := by omega
          have HX : Hid (j < len1 ∧ j < 60) := ⟨hlt, h60⟩
          obtain ⟨hnx, b, off, x, cs, hax, hbl, hx, hR, _, hc⟩ := HR1.out.at_ j hlt
          subst hax
          obtain ⟨ok, oi⟩ := x
          have hR : cs = [.int .i64 ok, .int .i64 oi] := hR
          subst hR
          have e0 : wr.cell? ⟨b, off + j * 2, none⟩ = some (.int .i64 ok) := cell_low (B5.out.trans (HB.out.mono HBL.out)) (by have := HLO.out; omega) (hc 0 _ rfl)
          have e1 : wr.cell? ⟨b, off + j * 2 + 1, none⟩ = some (.int .i64 oi) := cell_low (B5.out.trans (HB.out.mono HBL.out)) (by have := HLO.out; omega) (hc 1 _ rfl)
          have HBB : Hid (b ≠ gc ∧ b ≠ rb ∧ b ≠ bx) := by have h1 := HST.out.ev.low; have h2 := HST.out.ap; have := HLO.out; have := HBL.out; unfold Hid; omega
          clear hnx hbl hx hc
          clear hlt h60
          go_wp2_with fail
          refine wp_region_held_drew (S := (fun w' => w'.cell? ⟨b, off + j * 2, none⟩ = some (.int .i64 ok) ∧ w'.cell? ⟨b, off + j * 2 + 1, none⟩ = some (.int .i64 oi))) (by kernel_rfl) ?_ (fun hHeld => ?_)
          · exact ⟨e0, e1⟩
          refine takeD (i := 0) (d := some 76) (v := ?_) _ rfl rfl (by kernel_rfl) (by kernel_rfl) (by kernel_rfl) (fun _ _ _ h => h) (by rfl) ?_ (by assumption) ?_
          rotate_left
          · (intro w hSw; (try dsimp only at hSw); go_simp) <;> with_reducible rfl
          try simp only [Act.put, List.setIfInBounds_toArray, List.set_cons_zero, List.set_cons_succ]
          refine takeD (i := 2) (d := some 78) (v := ?_) _ rfl rfl (by kernel_rfl) (by kernel_rfl) (by kernel_rfl) (fun _ _ _ h => h) (by rfl) ?_ (by assumption) ?_
          rotate_left
          · (intro w hSw; (try dsimp only at hSw); go_simp) <;> with_reducible rfl
          try simp only [Act.put, List.setIfInBounds_toArray, List.set_cons_zero, List.set_cons_succ]
          refine takeD (i := 3) (d := some 79) (v := ?_) _ rfl rfl (by kernel_rfl) (by kernel_rfl) (by kernel_rfl) (fun _ _ _ h => h) (by rfl) ?_ (by assumption) ?_
          rotate_left
          · (intro w hSw; (try dsimp only at hSw); go_simp) <;> with_reducible rfl
          try simp only [Act.put, List.setIfInBounds_toArray, List.set_cons_zero, List.set_cons_succ]
          refine takeD (i := 4) (d := some 80) (v := ?_) _ rfl rfl (by kernel_rfl) (by kernel_rfl) (by kernel_rfl) (fun _ _ _ h => h) (by rfl) ?_ (by assumption) ?_
          rotate_left
          · (intro w hSw; (try dsimp only at hSw); go_simp) <;> with_reducible rfl
          try simp only [Act.put, List.setIfInBounds_toArray, List.set_cons_zero, List.set_cons_succ]
          refine takeD (i := 5) (d := some 81) (v := ?_) _ rfl rfl (by kernel_rfl) (by kernel_rfl) (by kernel_rfl) (fun _ _ _ h => h) (by rfl) ?_ (by assumption) ?_
          rotate_left
          · (intro w hSw; (try dsimp only at hSw); go_simp) <;> with_reducible rfl
          try simp only [Act.put, List.setIfInBounds_toArray, List.set_cons_zero, List.set_cons_succ]
          refine wpAnyH_ready (rs := [1]) (by kernel_rfl) (by simp) ?_
          refine AllReadyH.cons rfl (fun K hK => ?_) AllReadyH.nil
          have k0 : wr.drew.cell? ⟨bx, 0, none⟩ = some (.bool up) := by rw [(row_cell (w := wr.drew) HST.out.bx 0).1]; rfl
          have k1 : wr.drew.cell? ⟨bx, 1, none⟩ = some (.slice Av nv cv) := by rw [(row_cell (w := wr.drew) HST.out.bx 1).1]; rfl
          try go_simp
          refine hK.out _ _ ?_ (fun hHeld => ?_)
          · exact hHeld
          clear hK K
          try simp only [Act.put, List.setIfInBounds_toArray, List.set_cons_zero, List.set_cons_succ]
          refine wpAnyH_ready (rs := [6]) (by kernel_rfl) (by simp) ?_
          refine AllReadyH.cons rfl (fun K hK => ?_) AllReadyH.nil
          try go_simp
          go_at_call 11
          refine (do_any B gc rb up L (.slice Av nv cv) (fun b => b ≠ gc ∧ b ≠ rb ∧ b ≠ bx) ok oi wr.drew (HST.out.ev.below (Below.refl _ _).drew) (HST.out.rl.keep_below (Below.refl _ _).drew) (fun b hb => ⟨hb.1, hb.2.1⟩) (by have := HLL.out; have := HJ.out; have := HLE.out; omega)).mono ?_
          rintro e w3 ⟨v3, rb3, up3, L3, rfl, r3, r4, r5, r6, r7⟩
          have hk0 := r5.ch.cell (by have := HBB.out; show b ≠ gc; omega) (by have := HBB.out; show b ≠ rb; omega) hHeld.1
          have hk1 := r5.ch.cell (by have := HBB.out; show b ≠ gc; omega) (by have := HBB.out; show b ≠ rb; omega) hHeld.2
          have NX := Lib.hid ((show ST B bx wr.drew gc rb up L (.slice Av nv cv) from HST.out.below (Below.refl _ _).drew).next r3 r4 r5 (r6 HST.out.nu))
          have hbx : w3.heap[bx]? = some (.cells #[.bool up, .slice Av nv cv] 28 (0, 0)) := (r5.ch.block bx HST.out.blt HST.out.ap.1 HST.out.ap.2.1).trans HST.out.bx
          obtain ⟨Aw, nw, cw, rfl⟩ : ∃ A n c, v3 = .slice A n c := by
            obtain ⟨b, hb⟩ := r4.row
            obtain ⟨A, c, hb⟩ := slice_form hb.own
            exact ⟨A, _, c, hb⟩
          have m0 : w3.cell? ⟨bx, 0, none⟩ = some (.bool up) := by rw [(row_cell hbx 0).1]; rfl
          have m1 : w3.cell? ⟨bx, 1, none⟩ = some (.slice Av nv cv) := by rw [(row_cell hbx 1).1]; rfl
          have p0 : w3.frozen? ⟨bx, 0, none⟩ = false := (row_cell hbx 0).2
          have p1 : w3.frozen? ⟨bx, 1, none⟩ = false := (row_cell hbx 1).2
          have HL3 : Hid (L3.length ≤ Le.length + (j + 1)) := by have := HJ.out; unfold Hid; omega
          clear r3 r4 r5 r6 r7 hbx
          try go_wp2_with fail
          refine hK.out _ _ ?_ (fun hHeld => ?_)
          · exact ⟨hk0, hk1⟩
          clear hK K
          try simp only [Act.put, List.setIfInBounds_toArray, List.set_cons_zero, List.set_cons_succ]
          refine takeD (i := 7) (d := some 75) (v := ?_) _ rfl rfl (by kernel_rfl) (by kernel_rfl) (by kernel_rfl) (fun _ _ _ h => h) (by rfl) ?_ (by assumption) ?_
          rotate_left
          · (intro w hSw; (try dsimp only at hSw); go_simp) <;> with_reducible rfl
          try simp only [Act.put, List.setIfInBounds_toArray, List.set_cons_zero, List.set_cons_succ]
          refine takeD (i := 8) (d := some 83) (v := ?_) _ rfl rfl (by kernel_rfl) (by kernel_rfl) (by kernel_rfl) (fun _ _ _ h => h) (by rfl) ?_ (by assumption) ?_
          rotate_left
          · (intro w hSw; (try dsimp only at hSw); go_simp) <;> with_reducible rfl
          try simp only [Act.put, List.setIfInBounds_toArray, List.set_cons_zero, List.set_cons_succ]
          refine takeD (i := 9) (d := some 84) (v := ?_) _ rfl rfl (by kernel_rfl) (by kernel_rfl) (by kernel_rfl) (fun _ _ _ h => h) (by rfl) ?_ (by assumption) ?_
          rotate_left
          · (intro w hSw; (try dsimp only at hSw); go_simp) <;> with_reducible rfl
          try simp only [Act.put, List.setIfInBounds_toArray, List.set_cons_zero, List.set_cons_succ]
          refine wpAnyH_ready (rs := [10]) (by kernel_rfl) (by simp) ?_
          refine AllReadyH.cons rfl (fun K hK => ?_) AllReadyH.nil
          try go_simp
          refine hK.out _ _ ?_ (fun hHeld => ?_)
          · exact ⟨by rw [World.cell?_setCell_other _ _ _ _ (by intro e; injection e with e e2; have := HBB.out; omega), World.cell?_setCell_other _ _ _ _ (by intro e; injection e with e e2; have := HBB.out; omega)]; exact hk0, by rw [World.cell?_setCell_other _ _ _ _ (by intro e; injection e with e e2; have := HBB.out; omega), World.cell?_setCell_other _ _ _ _ (by intro e; injection e with e e2; have := HBB.out; omega)]; exact hk1⟩
          clear hK K
          try simp only [Act.put, List.setIfInBounds_toArray, List.set_cons_zero, List.set_cons_succ]
          refine wpAnyH_done (by kernel_rfl) ?_ _
          clear hHeld
          obtain ⟨Wn, hWn⟩ : ∃ Wn, (w3.setCell ⟨bx, 0, none⟩ (.bool up3)).setCell ⟨bx, 1, none⟩ (.slice Aw nw cw) = Wn := ⟨_, rfl⟩
          rw [hWn] at NX ⊢
          have SC := Lib.hid NX.out.1
          have BB : Hid (Below B W5 Wn) := HB.out.drew.trans NX.out.2
          have EE : Hid (EV lo Wn lo rbe ue Le) := E5.out.keep BB.out.size (BB.out.block _ (by have := E5B.out; omega)) (BB.out.block _ (by have := E5B.out; omega))
          have BWX : Hid (Wn.heap[bw]? = some (.cells #[.bool ue, .slice Ae ne ce] 28 (0, 0))) := (BB.out.block _ (by have := E5B.out; omega)).trans BX5.out
          have RE : Hid (Rl Wn (.slice Ae ne ce) (fun b => b < B) Le) := (RE5.out.keep BB.out.size (fun b _ hb => BB.out.block b hb)).imp fun b _ h => h.2
          have kx0 : Wn.cell? ⟨bx, 0, none⟩ = some (.bool up3) := by rw [(row_cell SC.out.bx 0).1]; rfl
          have kx1 : Wn.cell? ⟨bx, 1, none⟩ = some (.slice Aw nw cw) := by rw [(row_cell SC.out.bx 1).1]; rfl
          have jw0 : Wn.cell? ⟨bw, 0, none⟩ = some (.bool ue) := by rw [(row_cell BWX.out 0).1]; rfl
          have jw1 : Wn.cell? ⟨bw, 1, none⟩ = some (.slice Ae ne ce) := by rw [(row_cell BWX.out 1).1]; rfl
          clear hWn NX
          by_cases hue : ue = up3
          · subst hue
            have BN0 : Hid (Below Wn.heap.size Wn Wn) := Below.refl _ _
            obtain ⟨be, hbe⟩ := RE.out.row
            obtain ⟨bx3, hbx3⟩ := SC.out.rl.row
            obtain ⟨q, hq⟩ : ∃ q, decide (Le = L3) = q := ⟨_, rfl⟩
            have hq2 : decide (L3 = Le) = q := by rw [← hq]; exact decide_eq_decide.2 ⟨Eq.symm, Eq.symm⟩
            have HQ := Lib.hid hq
            have HQ2 := Lib.hid hq2
            have CS := Lib.hid (rsame_any _ _ be bx3 Le L3 Wn hbe hbx3 (by have := HLE.out; omega) (by have := HL3.out; have := HX.out; have := HLE.out; omega))
            rw [hq] at CS
            clear hbe hbx3 hq hq2
            go_wp2_with fail
            refine CS.out.mono ?_
            rintro e y1 ⟨rfl, b1⟩
            have BN1 := Lib.hid b1
            clear CS b1
            have kw0 : y1.cell? ⟨bw, 0, none⟩ = some (.bool ue) := cell_later BN1.out (by rw [(row_cell BWX.out 0).1]; rfl)
            have kw1 : y1.cell? ⟨bw, 1, none⟩ = some (.slice Ae ne ce) := cell_later BN1.out (by rw [(row_cell BWX.out 1).1]; rfl)
            have BND : Hid (Below Wn.heap.size Wn y1.drew) := BN1.out.drew
            go_wp2_with fail
            refine wp_region_held_drew (S := (fun w' => w'.cell? ⟨bw, 0, none⟩ = some (.bool ue) ∧ w'.cell? ⟨bw, 1, none⟩ = some (.slice Ae ne ce))) (by kernel_rfl) ?_ (fun hHeld => ?_)
            · exact ⟨kw0, kw1⟩
            refine takeD (i := 0) (d := some 97) (v := ?_) _ rfl rfl (by kernel_rfl) (by kernel_rfl) (by kernel_rfl) (fun _ _ _ h => h) (by rfl) ?_ (by assumption) ?_
            rotate_left
            · (intro w hSw; (try dsimp only at hSw); go_simp) <;> with_reducible rfl
            try simp only [Act.put, List.setIfInBounds_toArray, List.set_cons_zero, List.set_cons_succ]
            refine takeD (i := 2) (d := some 99) (v := ?_) _ rfl rfl (by kernel_rfl) (by kernel_rfl) (by kernel_rfl) (fun _ _ _ h => h) (by rfl) ?_ (by assumption) ?_
            rotate_left
            · (intro w hSw; (try dsimp only at hSw); go_simp) <;> with_reducible rfl
            try simp only [Act.put, List.setIfInBounds_toArray, List.set_cons_zero, List.set_cons_succ]
            refine takeD (i := 3) (d := some 100) (v := ?_) _ rfl rfl (by kernel_rfl) (by kernel_rfl) (by kernel_rfl) (fun _ _ _ h => h) (by rfl) ?_ (by assumption) ?_
            rotate_left
            · (intro w hSw; (try dsimp only at hSw); go_simp) <;> with_reducible rfl
            try simp only [Act.put, List.setIfInBounds_toArray, List.set_cons_zero, List.set_cons_succ]
            refine wpAnyH_ready (rs := [1]) (by kernel_rfl) (by simp) ?_
            refine AllReadyH.cons rfl (fun K hK => ?_) AllReadyH.nil
            try go_simp
            go_at_call 12
            refine (up_any lo _ _ _ _ _ (EE.out.below BND.out)).mono ?_
            rintro e y2 ⟨rfl, hw⟩
            have hw := hw.symm
            subst hw
            try go_wp2_with fail
            refine hK.out _ _ ?_ (fun hHeld => ?_)
            · exact hHeld
            clear hK K
            try simp only [Act.put, List.setIfInBounds_toArray, List.set_cons_zero, List.set_cons_succ]
            refine takeD (i := 4) (d := some 101) (v := ?_) _ rfl rfl (by kernel_rfl) (by kernel_rfl) (by kernel_rfl) (fun _ _ _ h => h) (by rfl) ?_ (by assumption) ?_
            rotate_left
            · (intro w hSw; (try dsimp only at hSw); go_simp) <;> with_reducible rfl
            try simp only [Act.put, List.setIfInBounds_toArray, List.set_cons_zero, List.set_cons_succ]
            refine takeD (i := 5) (d := some 102) (v := ?_) _ rfl rfl (by kernel_rfl) (by kernel_rfl) (by kernel_rfl) (fun _ _ _ h => h) (by rfl) ?_ (by assumption) ?_
            rotate_left
            · (intro w hSw; (try dsimp only at hSw); go_simp) <;> with_reducible rfl
            try simp only [Act.put, List.setIfInBounds_toArray, List.set_cons_zero, List.set_cons_succ]
            refine takeD (i := 6) (d := some 103) (v := ?_) _ rfl rfl (by kernel_rfl) (by kernel_rfl) (by kernel_rfl) (fun _ _ _ h => h) (by rfl) ?_ (by assumption) ?_
            rotate_left
            · (intro w hSw; (try dsimp only at hSw); go_simp) <;> with_reducible rfl
            try simp only [Act.put, List.setIfInBounds_toArray, List.set_cons_zero, List.set_cons_succ]
            refine takeD (i := 8) (d := some 105) (v := ?_) _ rfl rfl (by kernel_rfl) (by kernel_rfl) (by kernel_rfl) (fun _ _ _ h => h) (by rfl) ?_ (by assumption) ?_
            rotate_left
            · (intro w hSw; (try dsimp only at hSw); go_simp) <;> with_reducible rfl
            try simp only [Act.put, List.setIfInBounds_toArray, List.set_cons_zero, List.set_cons_succ]
            refine takeD (i := 9) (d := some 106) (v := ?_) _ rfl rfl (by kernel_rfl) (by kernel_rfl) (by kernel_rfl) (fun _ _ _ h => h) (by rfl) ?_ (by assumption) ?_
            rotate_left
            · (intro w hSw; (try dsimp only at hSw); go_simp) <;> with_reducible rfl
            try simp only [Act.put, List.setIfInBounds_toArray, List.set_cons_zero, List.set_cons_succ]
            refine wpAnyH_ready (rs := [7]) (by kernel_rfl) (by simp) ?_
            refine AllReadyH.cons rfl (fun K hK => ?_) AllReadyH.nil
            try go_simp
            go_at_call 14
            refine (waiting_any lo _ _ _ _ _ (EE.out.below BND.out) (by have := HLE.out; omega)).mono ?_
            rintro e y2 ⟨A2, n2, c2, rb2, rfl, r2, _, b2⟩
            have BN2 : Hid (Below Wn.heap.size Wn y2) := BND.out.trans (b2.mono BND.out.size)
            have R2 := Lib.hid r2
            have g2 := b2
            clear r2 b2
            try go_wp2_with fail
            refine hK.out _ _ ?_ (fun hHeld => ?_)
            · exact ⟨cell_later g2 hHeld.1, cell_later g2 hHeld.2⟩
            clear hK K
            try simp only [Act.put, List.setIfInBounds_toArray, List.set_cons_zero, List.set_cons_succ]
            refine wpAnyH_ready (rs := [10]) (by kernel_rfl) (by simp) ?_
            refine AllReadyH.cons rfl (fun K hK => ?_) AllReadyH.nil
            try go_simp
            go_at_call 13
            obtain ⟨be2, hbe2⟩ := (RE.out.keep_below BN2.out).row
            refine (rsame_any _ _ rb2 be2 Le Le y2 R2.out hbe2 (by have := HLE.out; omega) (by have := HLE.out; omega)).mono ?_
            rintro e y3 ⟨he3, b3⟩
            rw [decide_eq_true rfl] at he3
            subst he3
            have BN3 : Hid (Below Wn.heap.size Wn y3) := BN2.out.trans (b3.mono BN2.out.size)
            have g3 := b3
            clear hbe2 b3 R2
            try go_wp2_with fail
            refine hK.out _ _ ?_ (fun hHeld => ?_)
            · exact ⟨cell_later g3 hHeld.1, cell_later g3 hHeld.2⟩
            clear hK K
            try simp only [Act.put, List.setIfInBounds_toArray, List.set_cons_zero, List.set_cons_succ]
            refine takeD (i := 11) (d := some 108) (v := ?_) _ rfl rfl (by kernel_rfl) (by kernel_rfl) (by kernel_rfl) (fun _ _ _ h => h) (by rfl) ?_ (by assumption) ?_
            rotate_left
            · (intro w hSw; (try dsimp only at hSw); go_simp) <;> with_reducible rfl
            try simp only [Act.put, List.setIfInBounds_toArray, List.set_cons_zero, List.set_cons_succ]
            refine takeD (i := 12) (d := some 109) (v := ?_) _ rfl rfl (by kernel_rfl) (by kernel_rfl) (by kernel_rfl) (fun _ _ _ h => h) (by rfl) ?_ (by assumption) ?_
            rotate_left
            · (intro w hSw; (try dsimp only at hSw); go_simp) <;> with_reducible rfl
            try simp only [Act.put, List.setIfInBounds_toArray, List.set_cons_zero, List.set_cons_succ]
            refine takeD (i := 13) (d := some 110) (v := ?_) _ rfl rfl (by kernel_rfl) (by kernel_rfl) (by kernel_rfl) (fun _ _ _ h => h) (by rfl) ?_ (by assumption) ?_
            rotate_left
            · (intro w hSw; (try dsimp only at hSw); go_simp) <;> with_reducible rfl
            try simp only [Act.put, List.setIfInBounds_toArray, List.set_cons_zero, List.set_cons_succ]
            refine takeD (i := 14) (d := some 111) (v := ?_) _ rfl rfl (by kernel_rfl) (by kernel_rfl) (by kernel_rfl) (fun _ _ _ h => h) (by rfl) ?_ (by assumption) ?_
            rotate_left
            · (intro w hSw; (try dsimp only at hSw); go_simp) <;> with_reducible rfl
            try simp only [Act.put, List.setIfInBounds_toArray, List.set_cons_zero, List.set_cons_succ]
            refine takeD (i := 15) (d := some 112) (v := ?_) _ rfl rfl (by kernel_rfl) (by kernel_rfl) (by kernel_rfl) (fun _ _ _ h => h) (by rfl) ?_ (by assumption) ?_
            rotate_left
            · (intro w hSw; (try dsimp only at hSw); go_simp) <;> with_reducible rfl
            try simp only [Act.put, List.setIfInBounds_toArray, List.set_cons_zero, List.set_cons_succ]
            refine takeD (i := 17) (d := some 114) (v := ?_) _ rfl rfl (by kernel_rfl) (by kernel_rfl) (by kernel_rfl) (fun _ _ _ h => h) (by rfl) ?_ (by assumption) ?_
            rotate_left
            · (intro w hSw; (try dsimp only at hSw); go_simp) <;> with_reducible rfl
            try simp only [Act.put, List.setIfInBounds_toArray, List.set_cons_zero, List.set_cons_succ]
            refine wpAnyH_ready (rs := [16]) (by kernel_rfl) (by simp) ?_
            refine AllReadyH.cons rfl (fun K hK => ?_) AllReadyH.nil
            try go_simp
            go_at_call 21
            refine (same_any lo B lo rbe gc rb3 ue ue Le L3 y3 (EE.out.below BN3.out) (SC.out.ev.below BN3.out) (by have := HLE.out; omega) (by have := HL3.out; have := HX.out; have := HLE.out; omega)).mono ?_
            rintro e y4 ⟨he4, b4⟩
            rw [decide_eq_true rfl, HQ.out, Bool.true_and] at he4
            subst he4
            have BN4 : Hid (Below Wn.heap.size Wn y4) := BN3.out.trans (b4.mono BN3.out.size)
            have g4 := b4
            clear b4
            try go_wp2_with fail
            refine hK.out _ _ ?_ (fun hHeld => ?_)
            · exact ⟨cell_later g4 hHeld.1, cell_later g4 hHeld.2⟩
            clear hK K
            try simp only [Act.put, List.setIfInBounds_toArray, List.set_cons_zero, List.set_cons_succ]
            refine takeD (i := 18) (d := some 115) (v := ?_) _ rfl rfl (by kernel_rfl) (by kernel_rfl) (by kernel_rfl) (fun _ _ _ h => h) (by rfl) ?_ (by assumption) ?_
            rotate_left
            · (intro w hSw; (try dsimp only at hSw); go_simp) <;> with_reducible rfl
            try simp only [Act.put, List.setIfInBounds_toArray, List.set_cons_zero, List.set_cons_succ]
            refine takeD (i := 19) (d := some 116) (v := ?_) _ rfl rfl (by kernel_rfl) (by kernel_rfl) (by kernel_rfl) (fun _ _ _ h => h) (by rfl) ?_ (by assumption) ?_
            rotate_left
            · (intro w hSw; (try dsimp only at hSw); go_simp) <;> with_reducible rfl
            try simp only [Act.put, List.setIfInBounds_toArray, List.set_cons_zero, List.set_cons_succ]
            refine takeD (i := 20) (d := some 117) (v := ?_) _ rfl rfl (by kernel_rfl) (by kernel_rfl) (by kernel_rfl) (fun _ _ _ h => h) (by rfl) ?_ (by assumption) ?_
            rotate_left
            · (intro w hSw; (try dsimp only at hSw); go_simp) <;> with_reducible rfl
            try simp only [Act.put, List.setIfInBounds_toArray, List.set_cons_zero, List.set_cons_succ]
            refine takeD (i := 21) (d := some 118) (v := ?_) _ rfl rfl (by kernel_rfl) (by kernel_rfl) (by kernel_rfl) (fun _ _ _ h => h) (by rfl) ?_ (by assumption) ?_
            rotate_left
            · (intro w hSw; (try dsimp only at hSw); go_simp) <;> with_reducible rfl
            try simp only [Act.put, List.setIfInBounds_toArray, List.set_cons_zero, List.set_cons_succ]
            refine takeD (i := 22) (d := some 119) (v := ?_) _ rfl rfl (by kernel_rfl) (by kernel_rfl) (by kernel_rfl) (fun _ _ _ h => h) (by rfl) ?_ (by assumption) ?_
            rotate_left
            · (intro w hSw; (try dsimp only at hSw); go_simp) <;> with_reducible rfl
            try simp only [Act.put, List.setIfInBounds_toArray, List.set_cons_zero, List.set_cons_succ]
            refine takeD (i := 24) (d := some 121) (v := ?_) _ rfl rfl (by kernel_rfl) (by kernel_rfl) (by kernel_rfl) (fun _ _ _ h => h) (by rfl) ?_ (by assumption) ?_
            rotate_left
            · (intro w hSw; (try dsimp only at hSw); go_simp) <;> with_reducible rfl
            try simp only [Act.put, List.setIfInBounds_toArray, List.set_cons_zero, List.set_cons_succ]
            refine wpAnyH_ready (rs := [23]) (by kernel_rfl) (by simp) ?_
            refine AllReadyH.cons rfl (fun K hK => ?_) AllReadyH.nil
            try go_simp
            go_at_call 21
            refine (same_any B lo gc rb3 lo rbe ue ue L3 Le y4 (SC.out.ev.below BN4.out) (EE.out.below BN4.out) (by have := HL3.out; have := HX.out; have := HLE.out; omega) (by have := HLE.out; omega)).mono ?_
            rintro e y5 ⟨he5, b5⟩
            rw [decide_eq_true rfl, HQ2.out, Bool.true_and] at he5
            subst he5
            have BN5 : Hid (Below Wn.heap.size Wn y5) := BN4.out.trans (b5.mono BN4.out.size)
            have g5 := b5
            clear b5
            try go_wp2_with fail
            refine hK.out _ _ ?_ (fun hHeld => ?_)
            · exact ⟨cell_later g5 hHeld.1, cell_later g5 hHeld.2⟩
            clear hK K
            try simp only [Act.put, List.setIfInBounds_toArray, List.set_cons_zero, List.set_cons_succ]
            refine takeD (i := 25) (d := some 122) (v := ?_) _ rfl rfl (by kernel_rfl) (by kernel_rfl) (by kernel_rfl) (fun _ _ _ h => h) (by rfl) ?_ (by assumption) ?_
            rotate_left
            · (intro w hSw; (try dsimp only at hSw); go_simp) <;> with_reducible rfl
            try simp only [Act.put, List.setIfInBounds_toArray, List.set_cons_zero, List.set_cons_succ]
            refine takeD (i := 26) (d := some 123) (v := ?_) _ rfl rfl (by kernel_rfl) (by kernel_rfl) (by kernel_rfl) (fun _ _ _ h => h) (by rfl) ?_ (by assumption) ?_
            rotate_left
            · (intro w hSw; (try dsimp only at hSw); go_simp) <;> with_reducible rfl
            try simp only [Act.put, List.setIfInBounds_toArray, List.set_cons_zero, List.set_cons_succ]
            refine wpAnyH_done (by kernel_rfl) ?_ _
            clear hHeld g2 g3 g4 g5
            have SF := Lib.hid (SC.out.below BN5.out)
            have BF : Hid (Below B W5 y5) := BB.out.trans (BN5.out.mono (by have := BB.out.size; have := HB5.out; omega))
            go_wp2_with fail
            go_roundw
            case rel =>
              have Q : LR2 Le.length B bx gc len1 60 W5 (.int .i64 ((j : Int) + 1)) y5 := ⟨⟨j + 1, rb3, ue, L3, .slice Aw nw cw, HX.out.1, HX.out.2, by go_num, SF.out, HL3.out, BF.out⟩⟩
              first | exact Q | ((repeat apply Exists.intro); exact ⟨Q, rfl⟩)
            case measure => have := HX.out; simp [intOf]; omega
          · have hub : (ue == up3) = false := by simp [hue]
            have BN0 : Hid (Below Wn.heap.size Wn Wn) := Below.refl _ _
            have BN1 : Hid (Below Wn.heap.size Wn Wn) := Below.refl _ _
            have HUE := Lib.hid hue
            have kw0 : Wn.cell? ⟨bw, 0, none⟩ = some (.bool ue) := cell_later BN1.out (by rw [(row_cell BWX.out 0).1]; rfl)
            have kw1 : Wn.cell? ⟨bw, 1, none⟩ = some (.slice Ae ne ce) := cell_later BN1.out (by rw [(row_cell BWX.out 1).1]; rfl)
            have BND : Hid (Below Wn.heap.size Wn Wn.drew) := BN1.out.drew
            go_wp2_with fail
            refine wp_region_held_drew (S := (fun w' => w'.cell? ⟨bw, 0, none⟩ = some (.bool ue) ∧ w'.cell? ⟨bw, 1, none⟩ = some (.slice Ae ne ce))) (by kernel_rfl) ?_ (fun hHeld => ?_)
            · exact ⟨kw0, kw1⟩
            refine takeD (i := 0) (d := some 97) (v := ?_) _ rfl rfl (by kernel_rfl) (by kernel_rfl) (by kernel_rfl) (fun _ _ _ h => h) (by rfl) ?_ (by assumption) ?_
            rotate_left
            · (intro w hSw; (try dsimp only at hSw); go_simp) <;> with_reducible rfl
            try simp only [Act.put, List.setIfInBounds_toArray, List.set_cons_zero, List.set_cons_succ]
            refine takeD (i := 2) (d := some 99) (v := ?_) _ rfl rfl (by kernel_rfl) (by kernel_rfl) (by kernel_rfl) (fun _ _ _ h => h) (by rfl) ?_ (by assumption) ?_
            rotate_left
            · (intro w hSw; (try dsimp only at hSw); go_simp) <;> with_reducible rfl
            try simp only [Act.put, List.setIfInBounds_toArray, List.set_cons_zero, List.set_cons_succ]
            refine takeD (i := 3) (d := some 100) (v := ?_) _ rfl rfl (by kernel_rfl) (by kernel_rfl) (by kernel_rfl) (fun _ _ _ h => h) (by rfl) ?_ (by assumption) ?_
            rotate_left
            · (intro w hSw; (try dsimp only at hSw); go_simp) <;> with_reducible rfl
            try simp only [Act.put, List.setIfInBounds_toArray, List.set_cons_zero, List.set_cons_succ]
            refine wpAnyH_ready (rs := [1]) (by kernel_rfl) (by simp) ?_
            refine AllReadyH.cons rfl (fun K hK => ?_) AllReadyH.nil
            try go_simp
            go_at_call 12
            refine (up_any lo _ _ _ _ _ (EE.out.below BND.out)).mono ?_
            rintro e y2 ⟨rfl, hw⟩
            have hw := hw.symm
            subst hw
            try go_wp2_with fail
            refine hK.out _ _ ?_ (fun hHeld => ?_)
            · exact hHeld
            clear hK K
            try simp only [Act.put, List.setIfInBounds_toArray, List.set_cons_zero, List.set_cons_succ]
            refine takeD (i := 4) (d := some 101) (v := ?_) _ rfl rfl (by kernel_rfl) (by kernel_rfl) (by kernel_rfl) (fun _ _ _ h => h) (by rfl) ?_ (by assumption) ?_
            rotate_left
            · (intro w hSw; (try dsimp only at hSw); go_simp) <;> with_reducible rfl
            try simp only [Act.put, List.setIfInBounds_toArray, List.set_cons_zero, List.set_cons_succ]
            refine takeD (i := 5) (d := some 102) (v := ?_) _ rfl rfl (by kernel_rfl) (by kernel_rfl) (by kernel_rfl) (fun _ _ _ h => h) (by rfl) ?_ (by assumption) ?_
            rotate_left
            · (intro w hSw; (try dsimp only at hSw); go_simp) <;> with_reducible rfl
            try simp only [Act.put, List.setIfInBounds_toArray, List.set_cons_zero, List.set_cons_succ]
            refine takeD (i := 6) (d := some 103) (v := ?_) _ rfl rfl (by kernel_rfl) (by kernel_rfl) (by kernel_rfl) (fun _ _ _ h => h) (by rfl) ?_ (by assumption) ?_
            rotate_left
            · (intro w hSw; (try dsimp only at hSw); go_simp) <;> with_reducible rfl
            try simp only [Act.put, List.setIfInBounds_toArray, List.set_cons_zero, List.set_cons_succ]
            refine takeD (i := 8) (d := some 105) (v := ?_) _ rfl rfl (by kernel_rfl) (by kernel_rfl) (by kernel_rfl) (fun _ _ _ h => h) (by rfl) ?_ (by assumption) ?_
            rotate_left
            · (intro w hSw; (try dsimp only at hSw); go_simp) <;> with_reducible rfl
            try simp only [Act.put, List.setIfInBounds_toArray, List.set_cons_zero, List.set_cons_succ]
            refine takeD (i := 9) (d := some 106) (v := ?_) _ rfl rfl (by kernel_rfl) (by kernel_rfl) (by kernel_rfl) (fun _ _ _ h => h) (by rfl) ?_ (by assumption) ?_
            rotate_left
            · (intro w hSw; (try dsimp only at hSw); go_simp) <;> with_reducible rfl
            try simp only [Act.put, List.setIfInBounds_toArray, List.set_cons_zero, List.set_cons_succ]
            refine wpAnyH_ready (rs := [7]) (by kernel_rfl) (by simp) ?_
            refine AllReadyH.cons rfl (fun K hK => ?_) AllReadyH.nil
            try go_simp
            go_at_call 14
            refine (waiting_any lo _ _ _ _ _ (EE.out.below BND.out) (by have := HLE.out; omega)).mono ?_
            rintro e y2 ⟨A2, n2, c2, rb2, rfl, r2, _, b2⟩
            have BN2 : Hid (Below Wn.heap.size Wn y2) := BND.out.trans (b2.mono BND.out.size)
            have R2 := Lib.hid r2
            have g2 := b2
            clear r2 b2
            try go_wp2_with fail
            refine hK.out _ _ ?_ (fun hHeld => ?_)
            · exact ⟨cell_later g2 hHeld.1, cell_later g2 hHeld.2⟩
            clear hK K
            try simp only [Act.put, List.setIfInBounds_toArray, List.set_cons_zero, List.set_cons_succ]
            refine wpAnyH_ready (rs := [10]) (by kernel_rfl) (by simp) ?_
            refine AllReadyH.cons rfl (fun K hK => ?_) AllReadyH.nil
            try go_simp
            go_at_call 13
            obtain ⟨be2, hbe2⟩ := (RE.out.keep_below BN2.out).row
            refine (rsame_any _ _ rb2 be2 Le Le y2 R2.out hbe2 (by have := HLE.out; omega) (by have := HLE.out; omega)).mono ?_
            rintro e y3 ⟨he3, b3⟩
            rw [decide_eq_true rfl] at he3
            subst he3
            have BN3 : Hid (Below Wn.heap.size Wn y3) := BN2.out.trans (b3.mono BN2.out.size)
            have g3 := b3
            clear hbe2 b3 R2
            try go_wp2_with fail
            refine hK.out _ _ ?_ (fun hHeld => ?_)
            · exact ⟨cell_later g3 hHeld.1, cell_later g3 hHeld.2⟩
            clear hK K
            try simp only [Act.put, List.setIfInBounds_toArray, List.set_cons_zero, List.set_cons_succ]
            refine takeD (i := 11) (d := some 108) (v := ?_) _ rfl rfl (by kernel_rfl) (by kernel_rfl) (by kernel_rfl) (fun _ _ _ h => h) (by rfl) ?_ (by assumption) ?_
            rotate_left
            · (intro w hSw; (try dsimp only at hSw); go_simp) <;> with_reducible rfl
            try simp only [Act.put, List.setIfInBounds_toArray, List.set_cons_zero, List.set_cons_succ]
            refine takeD (i := 12) (d := some 109) (v := ?_) _ rfl rfl (by kernel_rfl) (by kernel_rfl) (by kernel_rfl) (fun _ _ _ h => h) (by rfl) ?_ (by assumption) ?_
            rotate_left
            · (intro w hSw; (try dsimp only at hSw); go_simp) <;> with_reducible rfl
            try simp only [Act.put, List.setIfInBounds_toArray, List.set_cons_zero, List.set_cons_succ]
            refine takeD (i := 13) (d := some 110) (v := ?_) _ rfl rfl (by kernel_rfl) (by kernel_rfl) (by kernel_rfl) (fun _ _ _ h => h) (by rfl) ?_ (by assumption) ?_
            rotate_left
            · (intro w hSw; (try dsimp only at hSw); go_simp) <;> with_reducible rfl
            try simp only [Act.put, List.setIfInBounds_toArray, List.set_cons_zero, List.set_cons_succ]
            refine takeD (i := 14) (d := some 111) (v := ?_) _ rfl rfl (by kernel_rfl) (by kernel_rfl) (by kernel_rfl) (fun _ _ _ h => h) (by rfl) ?_ (by assumption) ?_
            rotate_left
            · (intro w hSw; (try dsimp only at hSw); go_simp) <;> with_reducible rfl
            try simp only [Act.put, List.setIfInBounds_toArray, List.set_cons_zero, List.set_cons_succ]
            refine takeD (i := 15) (d := some 112) (v := ?_) _ rfl rfl (by kernel_rfl) (by kernel_rfl) (by kernel_rfl) (fun _ _ _ h => h) (by rfl) ?_ (by assumption) ?_
            rotate_left
            · (intro w hSw; (try dsimp only at hSw); go_simp) <;> with_reducible rfl
            try simp only [Act.put, List.setIfInBounds_toArray, List.set_cons_zero, List.set_cons_succ]
            refine takeD (i := 17) (d := some 114) (v := ?_) _ rfl rfl (by kernel_rfl) (by kernel_rfl) (by kernel_rfl) (fun _ _ _ h => h) (by rfl) ?_ (by assumption) ?_
            rotate_left
            · (intro w hSw; (try dsimp only at hSw); go_simp) <;> with_reducible rfl
            try simp only [Act.put, List.setIfInBounds_toArray, List.set_cons_zero, List.set_cons_succ]
            refine wpAnyH_ready (rs := [16]) (by kernel_rfl) (by simp) ?_
            refine AllReadyH.cons rfl (fun K hK => ?_) AllReadyH.nil
            try go_simp
            go_at_call 21
            refine (same_any lo B lo rbe gc rb3 ue up3 Le L3 y3 (EE.out.below BN3.out) (SC.out.ev.below BN3.out) (by have := HLE.out; omega) (by have := HL3.out; have := HX.out; have := HLE.out; omega)).mono ?_
            rintro e y4 ⟨he4, b4⟩
            rw [decide_eq_false HUE.out, Bool.false_and] at he4
            subst he4
            have BN4 : Hid (Below Wn.heap.size Wn y4) := BN3.out.trans (b4.mono BN3.out.size)
            have g4 := b4
            clear b4
            try go_wp2_with fail
            refine hK.out _ _ ?_ (fun hHeld => ?_)
            · exact ⟨cell_later g4 hHeld.1, cell_later g4 hHeld.2⟩
            clear hK K
            try simp only [Act.put, List.setIfInBounds_toArray, List.set_cons_zero, List.set_cons_succ]
            refine takeD (i := 18) (d := some 115) (v := ?_) _ rfl rfl (by kernel_rfl) (by kernel_rfl) (by kernel_rfl) (fun _ _ _ h => h) (by rfl) ?_ (by assumption) ?_
            rotate_left
            · (intro w hSw; (try dsimp only at hSw); go_simp) <;> with_reducible rfl
            try simp only [Act.put, List.setIfInBounds_toArray, List.set_cons_zero, List.set_cons_succ]
            refine takeD (i := 19) (d := some 116) (v := ?_) _ rfl rfl (by kernel_rfl) (by kernel_rfl) (by kernel_rfl) (fun _ _ _ h => h) (by rfl) ?_ (by assumption) ?_
            rotate_left
            · (intro w hSw; (try dsimp only at hSw); go_simp) <;> with_reducible rfl
            try simp only [Act.put, List.setIfInBounds_toArray, List.set_cons_zero, List.set_cons_succ]
            refine takeD (i := 20) (d := some 117) (v := ?_) _ rfl rfl (by kernel_rfl) (by kernel_rfl) (by kernel_rfl) (fun _ _ _ h => h) (by rfl) ?_ (by assumption) ?_
            rotate_left
            · (intro w hSw; (try dsimp only at hSw); go_simp) <;> with_reducible rfl
            try simp only [Act.put, List.setIfInBounds_toArray, List.set_cons_zero, List.set_cons_succ]
            refine takeD (i := 21) (d := some 118) (v := ?_) _ rfl rfl (by kernel_rfl) (by kernel_rfl) (by kernel_rfl) (fun _ _ _ h => h) (by rfl) ?_ (by assumption) ?_
            rotate_left
            · (intro w hSw; (try dsimp only at hSw); go_simp) <;> with_reducible rfl
            try simp only [Act.put, List.setIfInBounds_toArray, List.set_cons_zero, List.set_cons_succ]
            refine takeD (i := 22) (d := some 119) (v := ?_) _ rfl rfl (by kernel_rfl) (by kernel_rfl) (by kernel_rfl) (fun _ _ _ h => h) (by rfl) ?_ (by assumption) ?_
            rotate_left
            · (intro w hSw; (try dsimp only at hSw); go_simp) <;> with_reducible rfl
            try simp only [Act.put, List.setIfInBounds_toArray, List.set_cons_zero, List.set_cons_succ]
            refine takeD (i := 24) (d := some 121) (v := ?_) _ rfl rfl (by kernel_rfl) (by kernel_rfl) (by kernel_rfl) (fun _ _ _ h => h) (by rfl) ?_ (by assumption) ?_
            rotate_left
            · (intro w hSw; (try dsimp only at hSw); go_simp) <;> with_reducible rfl
            try simp only [Act.put, List.setIfInBounds_toArray, List.set_cons_zero, List.set_cons_succ]
            refine wpAnyH_ready (rs := [23]) (by kernel_rfl) (by simp) ?_
            refine AllReadyH.cons rfl (fun K hK => ?_) AllReadyH.nil
            try go_simp
            go_at_call 21
            refine (same_any B lo gc rb3 lo rbe up3 ue L3 Le y4 (SC.out.ev.below BN4.out) (EE.out.below BN4.out) (by have := HL3.out; have := HX.out; have := HLE.out; omega) (by have := HLE.out; omega)).mono ?_
            rintro e y5 ⟨he5, b5⟩
            rw [decide_eq_false (fun h => HUE.out h.symm), Bool.false_and] at he5
            subst he5
            have BN5 : Hid (Below Wn.heap.size Wn y5) := BN4.out.trans (b5.mono BN4.out.size)
            have g5 := b5
            clear b5
            try go_wp2_with fail
            refine hK.out _ _ ?_ (fun hHeld => ?_)
            · exact ⟨cell_later g5 hHeld.1, cell_later g5 hHeld.2⟩
            clear hK K
            try simp only [Act.put, List.setIfInBounds_toArray, List.set_cons_zero, List.set_cons_succ]
            refine takeD (i := 25) (d := some 122) (v := ?_) _ rfl rfl (by kernel_rfl) (by kernel_rfl) (by kernel_rfl) (fun _ _ _ h => h) (by rfl) ?_ (by assumption) ?_
            rotate_left
            · (intro w hSw; (try dsimp only at hSw); go_simp) <;> with_reducible rfl
            try simp only [Act.put, List.setIfInBounds_toArray, List.set_cons_zero, List.set_cons_succ]
            refine takeD (i := 26) (d := some 123) (v := ?_) _ rfl rfl (by kernel_rfl) (by kernel_rfl) (by kernel_rfl) (fun _ _ _ h => h) (by rfl) ?_ (by assumption) ?_
            rotate_left
            · (intro w hSw; (try dsimp only at hSw); go_simp) <;> with_reducible rfl
            try simp only [Act.put, List.setIfInBounds_toArray, List.set_cons_zero, List.set_cons_succ]
            refine wpAnyH_done (by kernel_rfl) ?_ _
            clear hHeld g2 g3 g4 g5
            have SF := Lib.hid (SC.out.below BN5.out)
            have BF : Hid (Below B W5 y5) := BB.out.trans (BN5.out.mono (by have := BB.out.size; have := HB5.out; omega))
            go_wp2_with fail
            go_roundw
            case rel =>
              have Q : LR2 Le.length B bx gc len1 60 W5 (.int .i64 ((j : Int) + 1)) y5 := ⟨⟨j + 1, rb3, up3, L3, .slice Aw nw cw, HX.out.1, HX.out.2, by go_num, SF.out, HL3.out, BF.out⟩⟩
              first | exact Q | ((repeat apply Exists.intro); exact ⟨Q, rfl⟩)
            case measure => have := HX.out; simp [intOf]; omega
        · have hjI : (j : Int) < (len1 : Int) := by omega
          have hj60 : ¬ (j : Int) < 60 := by omega
          clear hlt h60
          go_wp2_with fail
          go_ret
          exact ⟨rfl, (B5.out.trans (HB.out.mono HBL.out))⟩
      · have hjI : ¬ (j : Int) < (len1 : Int) := by omega
        clear hlt
        go_wp2_with fail
        go_ret
        exact ⟨rfl, (B5.out.trans (HB.out.mono HBL.out))⟩
end Go.Proofs.Ytehlgfflbbfjkaa.E
