/-
  LifeClones' walk. Each statement bears its own conditions.
-/
import Derived.Test.YtiellkodjhfhhaaLfQ
import Derived.LaidEqlPtr
namespace Go.Proofs.Ytiellkodjhfhhaa.Lf
open Go.RowKit Go.Proofs.Ytiellkodjhfhhaa.F 
set_option linter.unusedVariables false
set_option linter.unusedSimpArgs false
structure AR1 (lo bw len : Nat) (n : Int) (w0 : World) (iv : Value) (wr : World) : Prop where
  ex : ∃ (j : Nat) (s : LS), j ≤ len ∧ iv = .int .i64 (j : Int) ∧ LP lo bw w0 wr lo s n
theorem LS.eqB_self (a : LS) : a.eqB a = true := (LS.eqB_iff a a).2 rfl
theorem heap_of_cell {w : World} {g o : Nat} {v : Value} (h : w.cell? ⟨g, o, none⟩ = some v) : ∃ C t fr, w.heap[g]? = some (.cells C t fr) := by
  unfold World.cell? at h
  cases e : w.heap[g]? with
  | none => simp [e] at h
  | some ob =>
    cases ob with
    | cells C t fr => exact ⟨C, t, fr, rfl⟩
    | _ => simp [e] at h
theorem run_sameAddr_far {P : Program} {w : World} {g1 g2 o1 o2 : Nat} {v1 v2 : Value} (hbl : g1 ≠ g2) (c1 : w.cell? ⟨g1, o1, none⟩ = some v1) (c2 : w.cell? ⟨g2, o2, none⟩ = some v2) (f1 : ∀ o, w.frozen? ⟨g1, o, none⟩ = false) (f2 : ∀ o, w.frozen? ⟨g2, o, none⟩ = false) :
    (sameAddr ⟨g1, 0, none⟩ ⟨g2, 0, none⟩).run P w = .ok false w := by
  obtain ⟨C1, t1, r1, h1⟩ := heap_of_cell c1
  obtain ⟨C2, t2, r2, h2⟩ := heap_of_cell c2
  simp [sameAddr, hbl, noView, viewAt, World.shape?, mayBeOne, stringish, h1, h2, f1, f2]
theorem li_info : (Try.prog.info? 48).map (fun i => decide (i.size = 0)) = some false := by kernel_rfl
theorem run_ptr_far {w : World} {g1 g2 o1 o2 : Nat} {v1 v2 : Value} (hbl : g1 ≠ g2) (c1 : w.cell? ⟨g1, o1, none⟩ = some v1) (c2 : w.cell? ⟨g2, o2, none⟩ = some v2) (f1 : ∀ o, w.frozen? ⟨g1, o, none⟩ = false) (f2 : ∀ o, w.frozen? ⟨g2, o, none⟩ = false) :
    (binOp .eql 24 (.pointer (some ⟨g1, 0, none⟩)) (.pointer (some ⟨g2, 0, none⟩))).run Try.prog w = .ok (.bool false) w := by
  have hp : Try.prog.underlying 24 = some (.pointer 48) := Try.underlying24
  have h0 := li_info
  cases hte : Try.prog.info? 48 with
  | none => rw [hte] at h0; simp at h0
  | some j =>
    rw [hte] at h0
    simp only [Option.map_some, Option.some.injEq, decide_eq_false_iff_not] at h0
    have hsz : j.size ≠ 0 := h0
    have h : ∀ d : Nat, (Op.equalIn (d + 1) 24 (.pointer (some ⟨g1, 0, none⟩)) (.pointer (some ⟨g2, 0, none⟩))).run Try.prog w = .ok false w := fun d => by
      simp [Op.equalIn, run_underlying hp, sizeOf, typeInfo, hte, hsz, run_sameAddr_far hbl c1 c2 f1 f2]
    simp only [binOp]
    simp [Op.equal, Op.maxDepth, h 9999]
/-- Two of them, apart. -/
structure CP (lo bw cb bx : Nat) (w0 w : World) (s s2 : LS) (n : Int) : Prop where
  a : LP lo bw w0 w lo s n
  b : LP lo bx w0 w cb s2 n
  ap : lo ≠ cb ∧ lo ≠ bx ∧ bw ≠ cb ∧ bw ≠ bx
theorem CP.below {lo bw cb bx : Nat} {w0 w w' : World} {s s2 : LS} {n : Int} (h : CP lo bw cb bx w0 w s s2 n) (hb : Below w.heap.size w w') : CP lo bw cb bx w0 w' s s2 n := ⟨h.a.below hb, h.b.below hb, h.ap⟩
structure AR2 (lo bw cb bx len : Nat) (s : LS) (n : Int) (w0 : World) (iv : Value) (wr : World) : Prop where
  ex : ∃ (j : Nat) (s2 : LS), j ≤ len ∧ iv = .int .i64 (j : Int) ∧ CP lo bw cb bx w0 wr s s2 n
set_option maxRecDepth 100000 in
set_option maxHeartbeats 16000000 in
theorem clones_walk (a0 : Int) (a1 : Option Addr) (len cap : Nat) (zs : List Int) (a2 : Option Addr) (len2 cap2 : Nat) (zs2 : List Int) (w : World) (h1 : IsRow .i64 w a1 len cap zs) (h2 : IsRow .i64 w a2 len2 cap2 zs2) : Calls Try.prog 6 #[.int .i64 a0, .slice a1 len cap, .slice a2 len2 cap2] w fun e w' => e = .returned (.bool true) ∧ Below w.heap.size w w' := by
  have HR := Lib.hid h1
  have HR2 := Lib.hid h2
  clear h1 h2
  have he := he_li
  obtain ⟨lo, hlo⟩ : ∃ lo, w.heap.size = lo := ⟨_, rfl⟩
  have HLO := Lib.hid hlo
  obtain ⟨n, hn⟩ : ∃ x, (IntKind.u64.wrap a0).tmod 1001 = x := ⟨_, rfl⟩
  have b1 := u64_tmod a0 1001 (by decide)
  rw [hn] at b1
  have HNN : Hid (0 ≤ n ∧ n < 1001) := b1
  have v1 : IntKind.i64.wrap n = n := IntWalk.i64_in _ ⟨by omega, by omega⟩
  have NW := Lib.hid (new_any n w (by unfold newI; omega))
  rw [hlo] at NW ⊢
  clear hlo b1
  go_enter Try.func6, Try.ntmps6
  go_wp2_with fail
  refine NW.out.mono ?_
  rintro e w1 ⟨rfl, q1, b1⟩
  have Q1 : Hid (LV w1 lo ⟨1, n, 0⟩) := q1
  have B1 : Hid (Below lo w w1) := b1
  clear q1 b1 NW hn v1
  go_wp2_with fail
  refine (told_any w1).mono ?_
  rintro e w2 ⟨rfl, b2⟩
  have Q2 := Lib.hid (Q1.out.below b2)
  have B2 : Hid (Below lo w w2) := B1.out.trans (b2.mono (by have := Q1.out.lt; omega))
  clear b2 Q1 B1
  go_wp2_with fail
  refine (rnew_any n w2).mono ?_
  rintro e w3 ⟨rfl, b3⟩
  unfold RA
  have Q3 := Lib.hid (Q2.out.below b3)
  have B3 : Hid (Below lo w w3) := B2.out.trans (b3.mono (by have := Q2.out.lt; omega))
  clear b3 Q2 B2
  have hx : Below w3.heap.size w3 (w3.alloc (.cells #[.int .i64 0, .int .i64 0, .int .i64 0, .int .i64 0] 30)) := (Below.refl _ _).alloc (Nat.le_refl _) _
  have Q4 := Lib.hid (Q3.out.below hx)
  have HZ : Hid ((w3.alloc (.cells #[.int .i64 0, .int .i64 0, .int .i64 0, .int .i64 0] 30)).heap[w3.heap.size]? = some (.cells #[.int .i64 0, .int .i64 0, .int .i64 0, .int .i64 0] 30 (0, 0))) := heap_alloc_new _ _
  have B4 : Hid (Below lo w (w3.alloc (.cells #[.int .i64 0, .int .i64 0, .int .i64 0, .int .i64 0] 30))) := B3.out.trans (hx.mono (by have := Q3.out.lt; omega))
  have HNE : Hid (lo ≠ w3.heap.size ∧ lo ≤ w3.heap.size) := by have := Q3.out.lt; unfold Hid; omega
  obtain ⟨bw, hbw⟩ : ∃ b, w3.heap.size = b := ⟨_, rfl⟩
  obtain ⟨w4, hw4⟩ : ∃ W, w3.alloc (.cells #[.int .i64 0, .int .i64 0, .int .i64 0, .int .i64 0] 30) = W := ⟨_, rfl⟩
  rw [hbw] at HNE HZ
  rw [hw4] at HZ B4 Q4
  have z0 : w4.cell? ⟨bw, 0, none⟩ = some (.int .i64 0) := by rw [(row_cell HZ.out 0).1]; rfl
  have zz0 : w4.frozen? ⟨bw, 0, none⟩ = false := (row_cell HZ.out 0).2
  have z1 : w4.cell? ⟨bw, 1, none⟩ = some (.int .i64 0) := by rw [(row_cell HZ.out 1).1]; rfl
  have zz1 : w4.frozen? ⟨bw, 1, none⟩ = false := (row_cell HZ.out 1).2
  have z2 : w4.cell? ⟨bw, 2, none⟩ = some (.int .i64 0) := by rw [(row_cell HZ.out 2).1]; rfl
  have zz2 : w4.frozen? ⟨bw, 2, none⟩ = false := (row_cell HZ.out 2).2
  have z3 : w4.cell? ⟨bw, 3, none⟩ = some (.int .i64 0) := by rw [(row_cell HZ.out 3).1]; rfl
  have zz3 : w4.frozen? ⟨bw, 3, none⟩ = false := (row_cell HZ.out 3).2
  have P5 : Hid (LP lo bw w ((((w4.setCell ⟨bw, 0, none⟩ (.int .i64 (LS.mode ⟨1, n, 0⟩))).setCell ⟨bw, 1, none⟩ (.int .i64 (LS.starts ⟨1, n, 0⟩))).setCell ⟨bw, 2, none⟩ (.int .i64 (LS.left ⟨1, n, 0⟩))).setCell ⟨bw, 3, none⟩ (.int .i64 n)) lo ⟨1, n, 0⟩ n) := by
    have B := box4 HZ.out (.int .i64 (LS.mode ⟨1, n, 0⟩)) (.int .i64 (LS.starts ⟨1, n, 0⟩)) (.int .i64 (LS.left ⟨1, n, 0⟩)) (.int .i64 n)
    exact ⟨Q4.out.fo B.2 HNE.out.1, B.1, HNE.out.1, ⟨Nat.le_refl _, HNE.out.2⟩, B4.out.trans (B.2.below (fun b hb => by rw [hb]; exact HNE.out.2) (by have := Q4.out.lt; omega)), by simp⟩
  obtain ⟨w5, hw5⟩ : ∃ W, ((((w4.setCell ⟨bw, 0, none⟩ (.int .i64 (LS.mode ⟨1, n, 0⟩))).setCell ⟨bw, 1, none⟩ (.int .i64 (LS.starts ⟨1, n, 0⟩))).setCell ⟨bw, 2, none⟩ (.int .i64 (LS.left ⟨1, n, 0⟩))).setCell ⟨bw, 3, none⟩ (.int .i64 n)) = W := ⟨_, rfl⟩
  rw [hw5] at P5
  clear hx Q3 B3 Q4 B4 HZ HNE
  go_upto_block 0 with fail
  clear hw5 hbw hw4 z0 zz0 z1 zz1 z2 zz2 z3 zz3
  go_cut [11] (fun ix wx => ∃ s, LP lo bw w wx lo s n)
  case first =>
    go_wp2_with fail
    go_loopw [11] (fun iv wr => AR1 lo bw len n w iv wr) (fun i _ => len - (intOf i).toNat)
    case atStart => exact ⟨⟨0, _, Nat.zero_le _, rfl, P5.out⟩⟩
    case round =>
      clear P5
      obtain ⟨⟨j, s, hj, rfl, hlp⟩⟩ := hrel
      have HLPH := Lib.hid hlp
      clear hlp
      by_cases hlt : j < len
      rotate_left
      · have hjI : ¬ (j : Int) < (len : Int) := by omega
        have g0 : decide ((j : Int) < (len : Int)) = false := by simp; omega
        clear hlt hj
        go_wp2_with fail
        go_meet
        exact ⟨s, HLPH.out⟩
      by_cases h150 : j < 60
      rotate_left
      · have hjI : (j : Int) < (len : Int) := by omega
        have hcI : ¬ (j : Int) < 60 := by omega
        have g0 : decide ((j : Int) < (len : Int)) = true := by simp; omega
        have g3 : decide ((j : Int) < 60) = false := by simp; omega
        clear hlt hj h150
        go_wp2_with fail
        go_meet
        exact ⟨s, HLPH.out⟩
      have g0 : decide ((j : Int) < (len : Int)) = true := by simp; omega
      have g3 : decide ((j : Int) < 60) = true := by simp; omega
      have hjI : (j : Int) < (len : Int) := by omega
      have hcI : (j : Int) < 60 := by omega
      have HX : Hid (j < len) := hlt
      obtain ⟨b, off, hA, hc⟩ := row_at HR.out (show 0 < len by omega)
      subst hA
      obtain ⟨z, hz⟩ : ∃ x, zs.getD j 0 = x := ⟨_, rfl⟩
      have hc0 := (hc j hlt).1
      rw [hz] at hc0
      have HBL : Hid (b < lo) := by unfold Hid; rw [← HLO.out]; exact World.block_lt_of_cell? _ _ hc0
      have c0 : wr.cell? ⟨b, off + j, none⟩ = some (.int .i64 z) := (HLPH.out.be.cell (by show b < lo; exact HBL.out)).trans hc0
      clear hc hc0 hz hlt hj h150
      go_upto_region 9 with fail
      have hD : Below wr.heap.size wr wr.drew := (Below.refl _ _).drew
      have P_Y : Hid (LV wr.drew lo s) := HLPH.out.lv.below hD
      have X_Y : Hid (wr.drew.heap[bw]? = some (.cells #[.int .i64 s.mode, .int .i64 s.starts, .int .i64 s.left, .int .i64 n] 30 (0, 0))) := HLPH.out.bx
      have B_Y : Hid (Below lo w wr.drew) := HLPH.out.be.trans (hD.mono HLPH.out.nil)
      have F_Y : Hid (Fo (fun b => b = lo ∨ b = bw) wr wr.drew) := (Fo.refl _ wr).drew
      have cD : wr.drew.cell? ⟨b, off + j, none⟩ = some (.int .i64 z) := c0
      refine wp_region_held_drew (S := (fun w' => w'.cell? ⟨b, off + j, none⟩ = some (.int .i64 z))) (by kernel_rfl) cD (fun hHeld => ?_)
      clear hD c0 cD
      obtain ⟨Y, hY⟩ : ∃ W, wr.drew = W := ⟨_, rfl⟩
      rw [hY] at hHeld P_Y X_Y B_Y F_Y
      rw [hY]
      clear hY
      have x0 : Y.cell? ⟨bw, 0, none⟩ = some (.int .i64 s.mode) := by rw [(row_cell X_Y.out 0).1]; rfl
      have x1 : Y.cell? ⟨bw, 1, none⟩ = some (.int .i64 s.starts) := by rw [(row_cell X_Y.out 1).1]; rfl
      have x2 : Y.cell? ⟨bw, 2, none⟩ = some (.int .i64 s.left) := by rw [(row_cell X_Y.out 2).1]; rfl
      have x3 : Y.cell? ⟨bw, 3, none⟩ = some (.int .i64 n) := by rw [(row_cell X_Y.out 3).1]; rfl
      refine takeD (i := 0) (d := some 43) (v := ?_) _ rfl rfl (by kernel_rfl) (by kernel_rfl) (by kernel_rfl) (fun _ _ _ h => h) (by rfl) ?_ (by assumption) ?_
      rotate_left
      · (intro w hSw; (try dsimp only at hSw); go_simp) <;> with_reducible rfl
      try simp only [Act.put, List.setIfInBounds_toArray, List.set_cons_zero, List.set_cons_succ]
      refine takeD (i := 2) (d := some 45) (v := ?_) _ rfl rfl (by kernel_rfl) (by kernel_rfl) (by kernel_rfl) (fun _ _ _ h => h) (by rfl) ?_ (by assumption) ?_
      rotate_left
      · (intro w hSw; (try dsimp only at hSw); go_simp) <;> with_reducible rfl
      try simp only [Act.put, List.setIfInBounds_toArray, List.set_cons_zero, List.set_cons_succ]
      refine takeD (i := 3) (d := some 46) (v := ?_) _ rfl rfl (by kernel_rfl) (by kernel_rfl) (by kernel_rfl) (fun _ _ _ h => h) (by rfl) ?_ (by assumption) ?_
      rotate_left
      · (intro w hSw; (try dsimp only at hSw); go_simp) <;> with_reducible rfl
      try simp only [Act.put, List.setIfInBounds_toArray, List.set_cons_zero, List.set_cons_succ]
      refine takeD (i := 4) (d := some 47) (v := ?_) _ rfl rfl (by kernel_rfl) (by kernel_rfl) (by kernel_rfl) (fun _ _ _ h => h) (by rfl) ?_ (by assumption) ?_
      rotate_left
      · (intro w hSw; (try dsimp only at hSw); go_simp) <;> with_reducible rfl
      try simp only [Act.put, List.setIfInBounds_toArray, List.set_cons_zero, List.set_cons_succ]
      refine takeD (i := 5) (d := some 48) (v := ?_) _ rfl rfl (by kernel_rfl) (by kernel_rfl) (by kernel_rfl) (fun _ _ _ h => h) (by rfl) ?_ (by assumption) ?_
      rotate_left
      · (intro w hSw; (try dsimp only at hSw); go_simp) <;> with_reducible rfl
      try simp only [Act.put, List.setIfInBounds_toArray, List.set_cons_zero, List.set_cons_succ]
      refine wpAnyH_ready (rs := [1]) (by kernel_rfl) (by simp) ?_
      refine AllReadyH.cons rfl (fun K0 hK => ?_) AllReadyH.nil
      try go_simp
      refine hK.out _ _ hHeld (fun hHeld => ?_)
      clear hK K0
      try simp only [Act.put, List.setIfInBounds_toArray, List.set_cons_zero, List.set_cons_succ]
      refine wpAnyH_ready (rs := [6]) (by kernel_rfl) (by simp) ?_
      refine AllReadyH.cons rfl (fun K0 hK => ?_) AllReadyH.nil
      try go_simp
      go_at_call 12
      refine (ldo_any lo s n z Y P_Y.out HLPH.out.hf).mono ?_
      rintro e w5 ⟨rfl, q1, f1⟩
      unfold RA
      have P5 := Lib.hid q1
      have X5 : Hid (w5.heap[bw]? = some (.cells #[.int .i64 s.mode, .int .i64 s.starts, .int .i64 s.left, .int .i64 n] 30 (0, 0))) := (f1.block bw (Array.getElem?_eq_some_iff.1 X_Y.out).1 (fun e => HLPH.out.ne e.symm)).trans X_Y.out
      have B5 : Hid (Below lo w w5) := B_Y.out.trans (f1.below (fun b hb => by rw [hb]; exact HLPH.out.ll.1) (by have := P_Y.out.lt; have := HLPH.out.ll.1; omega))
      have F5 : Hid (Fo (fun b => b = lo ∨ b = bw) wr w5) := F_Y.out.trans f1 (fun i hi => .inl (.inl hi))
      have kp := (f1.cell (fun e => by have h6 : b = lo := e; have := HBL.out; have := HLPH.out.ll.1; omega) hHeld : w5.cell? ⟨b, off + j, none⟩ = some (.int .i64 z))
      clear q1 f1 x0 x1 x2 x3 P_Y X_Y B_Y F_Y
      try go_wp2_with fail
      refine hK.out _ _ kp (fun hHeld => ?_)
      clear kp
      clear hK K0
      try simp only [Act.put, List.setIfInBounds_toArray, List.set_cons_zero, List.set_cons_succ]
      refine takeD (i := 7) (d := some 42) (v := ?_) _ rfl rfl (by kernel_rfl) (by kernel_rfl) (by kernel_rfl) (fun _ _ _ h => h) (by rfl) ?_ (by assumption) ?_
      rotate_left
      · (intro w hSw; (try dsimp only at hSw); go_simp) <;> with_reducible rfl
      try simp only [Act.put, List.setIfInBounds_toArray, List.set_cons_zero, List.set_cons_succ]
      refine takeD (i := 8) (d := some 50) (v := ?_) _ rfl rfl (by kernel_rfl) (by kernel_rfl) (by kernel_rfl) (fun _ _ _ h => h) (by rfl) ?_ (by assumption) ?_
      rotate_left
      · (intro w hSw; (try dsimp only at hSw); go_simp) <;> with_reducible rfl
      try simp only [Act.put, List.setIfInBounds_toArray, List.set_cons_zero, List.set_cons_succ]
      refine takeD (i := 9) (d := some 51) (v := ?_) _ rfl rfl (by kernel_rfl) (by kernel_rfl) (by kernel_rfl) (fun _ _ _ h => h) (by rfl) ?_ (by assumption) ?_
      rotate_left
      · (intro w hSw; (try dsimp only at hSw); go_simp) <;> with_reducible rfl
      try simp only [Act.put, List.setIfInBounds_toArray, List.set_cons_zero, List.set_cons_succ]
      have x0 : w5.cell? ⟨bw, 0, none⟩ = some (.int .i64 s.mode) := by rw [(row_cell X5.out 0).1]; rfl
      have xz0 : w5.frozen? ⟨bw, 0, none⟩ = false := (row_cell X5.out 0).2
      have x1 : w5.cell? ⟨bw, 1, none⟩ = some (.int .i64 s.starts) := by rw [(row_cell X5.out 1).1]; rfl
      have xz1 : w5.frozen? ⟨bw, 1, none⟩ = false := (row_cell X5.out 1).2
      have x2 : w5.cell? ⟨bw, 2, none⟩ = some (.int .i64 s.left) := by rw [(row_cell X5.out 2).1]; rfl
      have xz2 : w5.frozen? ⟨bw, 2, none⟩ = false := (row_cell X5.out 2).2
      have x3 : w5.cell? ⟨bw, 3, none⟩ = some (.int .i64 n) := by rw [(row_cell X5.out 3).1]; rfl
      have xz3 : w5.frozen? ⟨bw, 3, none⟩ = false := (row_cell X5.out 3).2
      have BZ := box4 X5.out (.int .i64 (actS s z).mode) (.int .i64 (actS s z).starts) (.int .i64 (actS s z).left) (.int .i64 n)
      have kp := (BZ.2.cell (fun e => by have h6 : b = bw := e; have := HBL.out; have := HLPH.out.ll.2; omega) hHeld : ((((w5.setCell ⟨bw, 0, none⟩ (.int .i64 (actS s z).mode)).setCell ⟨bw, 1, none⟩ (.int .i64 (actS s z).starts)).setCell ⟨bw, 2, none⟩ (.int .i64 (actS s z).left)).setCell ⟨bw, 3, none⟩ (.int .i64 n)).cell? ⟨b, off + j, none⟩ = some (.int .i64 z))
      have P7 := Lib.hid (LP.put HLPH.out P5.out X5.out B5.out (actS_sum HLPH.out.hf z))
      have F7 : Hid (Fo (fun b => b = lo ∨ b = bw) wr ((((w5.setCell ⟨bw, 0, none⟩ (.int .i64 (actS s z).mode)).setCell ⟨bw, 1, none⟩ (.int .i64 (actS s z).starts)).setCell ⟨bw, 2, none⟩ (.int .i64 (actS s z).left)).setCell ⟨bw, 3, none⟩ (.int .i64 n))) := F5.out.trans BZ.2 (fun i hi => .inl (.inr hi))
      clear BZ
      refine wpAnyH_ready (rs := [10]) (by kernel_rfl) (by simp) ?_
      refine AllReadyH.cons rfl (fun K0 hK => ?_) AllReadyH.nil
      try go_simp
      refine hK.out _ _ kp (fun hHeld => ?_)
      clear kp
      clear hK K0
      try simp only [Act.put, List.setIfInBounds_toArray, List.set_cons_zero, List.set_cons_succ]
      refine wpAnyH_done (by kernel_rfl) ?_ _
      clear hHeld x0 xz0 x1 xz1 x2 xz2 x3 xz3 P5 X5 B5 F5
      obtain ⟨w7, hw7⟩ : ∃ W, ((((w5.setCell ⟨bw, 0, none⟩ (.int .i64 (actS s z).mode)).setCell ⟨bw, 1, none⟩ (.int .i64 (actS s z).starts)).setCell ⟨bw, 2, none⟩ (.int .i64 (actS s z).left)).setCell ⟨bw, 3, none⟩ (.int .i64 n)) = W := ⟨_, rfl⟩
      rw [hw7] at P7 F7
      rw [hw7]
      clear hw7
      clear F7
      go_wp2_with fail
      go_roundw
      case rel =>
        have Q : AR1 lo bw len n w (.int .i64 ((j : Int) + 1)) w7 := ⟨⟨j + 1, actS s z, HX.out, by go_num, P7.out⟩⟩
        first | exact Q | ((repeat apply Exists.intro); exact ⟨Q, rfl⟩)
      case measure => have := HX.out; simp [intOf]; omega
  case rest =>
    obtain ⟨w8, hw8⟩ : ∃ w', w' = wc := ⟨_, rfl⟩
    subst hw8
    obtain ⟨s, hs⟩ := hcut
    have P8 := Lib.hid hs
    clear hs P5
    go_wp2_with fail
    refine (clone_any lo s w8 P8.out.lv).mono ?_
    rintro e w9 ⟨rfl, q9, b9⟩
    have P9 := Lib.hid (P8.out.below b9)
    have Q9 := Lib.hid q9
    have HC9 : Hid (lo ≠ w8.heap.size ∧ bw ≠ w8.heap.size ∧ lo ≤ w8.heap.size) := by have := P8.out.lv.lt; have := P8.out.blt; unfold Hid; omega
    obtain ⟨cb, hcb⟩ : ∃ b, w8.heap.size = b := ⟨_, rfl⟩
    rw [hcb] at Q9 HC9
    rw [hcb]
    have hf1 := run_ptr_far (w := w9) (g1 := cb) (g2 := lo) (o1 := 0) (o2 := 0) HC9.out.1.symm (by rw [(row_cell Q9.out.hp 0).1]; rfl) (by rw [(row_cell P9.out.lv.hp 0).1]; rfl) (fun o => (row_cell Q9.out.hp o).2) (fun o => (row_cell P9.out.lv.hp o).2)
    clear q9 b9 P8 hcb
    go_wp2_with fail
    refine (same_any cb lo s s w9 Q9.out P9.out.lv).mono ?_
    rw [LS.eqB_self]
    rintro e w10 ⟨rfl, b10⟩
    have P10 := Lib.hid (P9.out.below b10)
    have Q10 := Lib.hid (Q9.out.below b10)
    clear b10 P9 Q9
    go_wp2_with fail
    refine (same_any lo cb s s w10 P10.out.lv Q10.out).mono ?_
    rw [LS.eqB_self]
    rintro e w11 ⟨rfl, b11⟩
    have P11 := Lib.hid (P10.out.below b11)
    have Q11 := Lib.hid (Q10.out.below b11)
    clear b11 P10 Q10
    go_wp2_with fail
    refine (same_nil_r lo w11).mono ?_
    rintro e w12 ⟨rfl, hw12⟩
    rw [hw12]
    clear hw12
    obtain ⟨r0, r1, r2, r3⟩ := P11.out.box
    have hx : Below w11.heap.size w11 (w11.alloc (.cells #[.int .i64 0, .int .i64 0, .int .i64 0, .int .i64 0] 30)) := (Below.refl _ _).alloc (Nat.le_refl _) _
    have P12 := Lib.hid (P11.out.below hx)
    have Q12 := Lib.hid (Q11.out.below hx)
    have HZ : Hid ((w11.alloc (.cells #[.int .i64 0, .int .i64 0, .int .i64 0, .int .i64 0] 30)).heap[w11.heap.size]? = some (.cells #[.int .i64 0, .int .i64 0, .int .i64 0, .int .i64 0] 30 (0, 0))) := heap_alloc_new _ _
    have HB : Hid (lo ≠ w11.heap.size ∧ bw ≠ w11.heap.size ∧ cb ≠ w11.heap.size ∧ lo ≤ w11.heap.size) := by have := P11.out.lv.lt; have := P11.out.blt; have := Q11.out.lt; unfold Hid; omega
    obtain ⟨bx, hbx⟩ : ∃ b, w11.heap.size = b := ⟨_, rfl⟩
    obtain ⟨w13, hw13⟩ : ∃ W, w11.alloc (.cells #[.int .i64 0, .int .i64 0, .int .i64 0, .int .i64 0] 30) = W := ⟨_, rfl⟩
    rw [hw13] at P12 Q12 HZ
    rw [hbx] at HZ HB
    have z0 : w13.cell? ⟨bx, 0, none⟩ = some (.int .i64 0) := by rw [(row_cell HZ.out 0).1]; rfl
    have zz0 : w13.frozen? ⟨bx, 0, none⟩ = false := (row_cell HZ.out 0).2
    have z1 : w13.cell? ⟨bx, 1, none⟩ = some (.int .i64 0) := by rw [(row_cell HZ.out 1).1]; rfl
    have zz1 : w13.frozen? ⟨bx, 1, none⟩ = false := (row_cell HZ.out 1).2
    have z2 : w13.cell? ⟨bx, 2, none⟩ = some (.int .i64 0) := by rw [(row_cell HZ.out 2).1]; rfl
    have zz2 : w13.frozen? ⟨bx, 2, none⟩ = false := (row_cell HZ.out 2).2
    have z3 : w13.cell? ⟨bx, 3, none⟩ = some (.int .i64 0) := by rw [(row_cell HZ.out 3).1]; rfl
    have zz3 : w13.frozen? ⟨bx, 3, none⟩ = false := (row_cell HZ.out 3).2
    have P14 : Hid (CP lo bw cb bx w ((((w13.setCell ⟨bx, 0, none⟩ (.int .i64 s.mode)).setCell ⟨bx, 1, none⟩ (.int .i64 s.starts)).setCell ⟨bx, 2, none⟩ (.int .i64 s.left)).setCell ⟨bx, 3, none⟩ (.int .i64 n)) s s n) := by
      have B := box4 HZ.out (.int .i64 s.mode) (.int .i64 s.starts) (.int .i64 s.left) (.int .i64 n)
      have p := P12.out
      have hb : Below lo w ((((w13.setCell ⟨bx, 0, none⟩ (.int .i64 s.mode)).setCell ⟨bx, 1, none⟩ (.int .i64 s.starts)).setCell ⟨bx, 2, none⟩ (.int .i64 s.left)).setCell ⟨bx, 3, none⟩ (.int .i64 n)) := p.be.trans (B.2.below (fun b hb => by rw [hb]; exact HB.out.2.2.2) p.nil)
      exact ⟨⟨p.lv.fo B.2 HB.out.1, (B.2.block bw p.blt HB.out.2.1).trans p.bx, p.ne, p.ll, hb, p.hf⟩, ⟨Q12.out.fo B.2 HB.out.2.2.1, B.1, HB.out.2.2.1, ⟨HC9.out.2.2, HB.out.2.2.2⟩, hb, p.hf⟩, HC9.out.1, HB.out.1, HC9.out.2.1, HB.out.2.1⟩
    obtain ⟨w14, hw14⟩ : ∃ W, ((((w13.setCell ⟨bx, 0, none⟩ (.int .i64 s.mode)).setCell ⟨bx, 1, none⟩ (.int .i64 s.starts)).setCell ⟨bx, 2, none⟩ (.int .i64 s.left)).setCell ⟨bx, 3, none⟩ (.int .i64 n)) = W := ⟨_, rfl⟩
    rw [hw14] at P14
    clear hx P11 Q11 P12 Q12 HZ
    go_upto_block 2 with fail
    clear hw14 hw13 hbx r0 r1 r2 r3 z0 zz0 z1 zz1 z2 zz2 z3 zz3 hf1
    go_cut [14] (fun ix wx => Below lo w wx)
    case first =>
      go_wp2_with fail
      go_loopw [14] (fun iv wr => AR2 lo bw cb bx len2 s n w iv wr) (fun i _ => len2 - (intOf i).toNat)
      case atStart => exact ⟨⟨0, _, Nat.zero_le _, rfl, P14.out⟩⟩
      case round =>
        clear P14
        obtain ⟨⟨j, s2, hj, rfl, hcp⟩⟩ := hrel
        have HCP := Lib.hid hcp
        have HLPH : Hid (LP lo bx w wr cb s2 n) := hcp.b
        clear hcp
        by_cases hlt : j < len2
        rotate_left
        · have hjI : ¬ (j : Int) < (len2 : Int) := by omega
          have g0 : decide ((j : Int) < (len2 : Int)) = false := by simp; omega
          clear hlt hj
          go_wp2_with fail
          go_meet
          exact HLPH.out.be
        by_cases h150 : j < 60
        rotate_left
        · have hjI : (j : Int) < (len2 : Int) := by omega
          have hcI : ¬ (j : Int) < 60 := by omega
          have g0 : decide ((j : Int) < (len2 : Int)) = true := by simp; omega
          have g3 : decide ((j : Int) < 60) = false := by simp; omega
          clear hlt hj h150
          go_wp2_with fail
          go_meet
          exact HLPH.out.be
        have g0 : decide ((j : Int) < (len2 : Int)) = true := by simp; omega
        have g3 : decide ((j : Int) < 60) = true := by simp; omega
        have hjI : (j : Int) < (len2 : Int) := by omega
        have hcI : (j : Int) < 60 := by omega
        have HX : Hid (j < len2) := hlt
        obtain ⟨b, off, hA, hc⟩ := row_at HR2.out (show 0 < len2 by omega)
        subst hA
        obtain ⟨z, hz⟩ : ∃ x, zs2.getD j 0 = x := ⟨_, rfl⟩
        have hc0 := (hc j hlt).1
        rw [hz] at hc0
        have HBL : Hid (b < lo) := by unfold Hid; rw [← HLO.out]; exact World.block_lt_of_cell? _ _ hc0
        have c0 : wr.cell? ⟨b, off + j, none⟩ = some (.int .i64 z) := (HLPH.out.be.cell (by show b < lo; exact HBL.out)).trans hc0
        clear hc hc0 hz hlt hj h150
        go_upto_region 17 with fail
        have hD : Below wr.heap.size wr wr.drew := (Below.refl _ _).drew
        have P_Y : Hid (LV wr.drew cb s2) := HLPH.out.lv.below hD
        have X_Y : Hid (wr.drew.heap[bx]? = some (.cells #[.int .i64 s2.mode, .int .i64 s2.starts, .int .i64 s2.left, .int .i64 n] 30 (0, 0))) := HLPH.out.bx
        have B_Y : Hid (Below lo w wr.drew) := HLPH.out.be.trans (hD.mono HLPH.out.nil)
        have F_Y : Hid (Fo (fun b => b = cb ∨ b = bx) wr wr.drew) := (Fo.refl _ wr).drew
        have cD : wr.drew.cell? ⟨b, off + j, none⟩ = some (.int .i64 z) := c0
        refine wp_region_held_drew (S := (fun w' => w'.cell? ⟨b, off + j, none⟩ = some (.int .i64 z))) (by kernel_rfl) cD (fun hHeld => ?_)
        clear hD c0 cD
        obtain ⟨Y, hY⟩ : ∃ W, wr.drew = W := ⟨_, rfl⟩
        rw [hY] at hHeld P_Y X_Y B_Y F_Y
        rw [hY]
        clear hY
        have x0 : Y.cell? ⟨bx, 0, none⟩ = some (.int .i64 s2.mode) := by rw [(row_cell X_Y.out 0).1]; rfl
        have x1 : Y.cell? ⟨bx, 1, none⟩ = some (.int .i64 s2.starts) := by rw [(row_cell X_Y.out 1).1]; rfl
        have x2 : Y.cell? ⟨bx, 2, none⟩ = some (.int .i64 s2.left) := by rw [(row_cell X_Y.out 2).1]; rfl
        have x3 : Y.cell? ⟨bx, 3, none⟩ = some (.int .i64 n) := by rw [(row_cell X_Y.out 3).1]; rfl
        refine takeD (i := 0) (d := some 89) (v := ?_) _ rfl rfl (by kernel_rfl) (by kernel_rfl) (by kernel_rfl) (fun _ _ _ h => h) (by rfl) ?_ (by assumption) ?_
        rotate_left
        · (intro w hSw; (try dsimp only at hSw); go_simp) <;> with_reducible rfl
        try simp only [Act.put, List.setIfInBounds_toArray, List.set_cons_zero, List.set_cons_succ]
        refine takeD (i := 2) (d := some 91) (v := ?_) _ rfl rfl (by kernel_rfl) (by kernel_rfl) (by kernel_rfl) (fun _ _ _ h => h) (by rfl) ?_ (by assumption) ?_
        rotate_left
        · (intro w hSw; (try dsimp only at hSw); go_simp) <;> with_reducible rfl
        try simp only [Act.put, List.setIfInBounds_toArray, List.set_cons_zero, List.set_cons_succ]
        refine takeD (i := 3) (d := some 92) (v := ?_) _ rfl rfl (by kernel_rfl) (by kernel_rfl) (by kernel_rfl) (fun _ _ _ h => h) (by rfl) ?_ (by assumption) ?_
        rotate_left
        · (intro w hSw; (try dsimp only at hSw); go_simp) <;> with_reducible rfl
        try simp only [Act.put, List.setIfInBounds_toArray, List.set_cons_zero, List.set_cons_succ]
        refine takeD (i := 4) (d := some 93) (v := ?_) _ rfl rfl (by kernel_rfl) (by kernel_rfl) (by kernel_rfl) (fun _ _ _ h => h) (by rfl) ?_ (by assumption) ?_
        rotate_left
        · (intro w hSw; (try dsimp only at hSw); go_simp) <;> with_reducible rfl
        try simp only [Act.put, List.setIfInBounds_toArray, List.set_cons_zero, List.set_cons_succ]
        refine takeD (i := 5) (d := some 94) (v := ?_) _ rfl rfl (by kernel_rfl) (by kernel_rfl) (by kernel_rfl) (fun _ _ _ h => h) (by rfl) ?_ (by assumption) ?_
        rotate_left
        · (intro w hSw; (try dsimp only at hSw); go_simp) <;> with_reducible rfl
        try simp only [Act.put, List.setIfInBounds_toArray, List.set_cons_zero, List.set_cons_succ]
        refine wpAnyH_ready (rs := [1]) (by kernel_rfl) (by simp) ?_
        refine AllReadyH.cons rfl (fun K0 hK => ?_) AllReadyH.nil
        try go_simp
        refine hK.out _ _ hHeld (fun hHeld => ?_)
        clear hK K0
        try simp only [Act.put, List.setIfInBounds_toArray, List.set_cons_zero, List.set_cons_succ]
        refine wpAnyH_ready (rs := [6]) (by kernel_rfl) (by simp) ?_
        refine AllReadyH.cons rfl (fun K0 hK => ?_) AllReadyH.nil
        try go_simp
        go_at_call 12
        refine (ldo_any cb s2 n z Y P_Y.out HLPH.out.hf).mono ?_
        rintro e w5 ⟨rfl, q1, f1⟩
        unfold RA
        have P5 := Lib.hid q1
        have X5 : Hid (w5.heap[bx]? = some (.cells #[.int .i64 s2.mode, .int .i64 s2.starts, .int .i64 s2.left, .int .i64 n] 30 (0, 0))) := (f1.block bx (Array.getElem?_eq_some_iff.1 X_Y.out).1 (fun e => HLPH.out.ne e.symm)).trans X_Y.out
        have B5 : Hid (Below lo w w5) := B_Y.out.trans (f1.below (fun b hb => by rw [hb]; exact HLPH.out.ll.1) (by have := P_Y.out.lt; have := HLPH.out.ll.1; omega))
        have F5 : Hid (Fo (fun b => b = cb ∨ b = bx) wr w5) := F_Y.out.trans f1 (fun i hi => .inl (.inl hi))
        have kp := (f1.cell (fun e => by have h6 : b = cb := e; have := HBL.out; have := HLPH.out.ll.1; omega) hHeld : w5.cell? ⟨b, off + j, none⟩ = some (.int .i64 z))
        clear q1 f1 x0 x1 x2 x3 P_Y X_Y B_Y F_Y
        try go_wp2_with fail
        refine hK.out _ _ kp (fun hHeld => ?_)
        clear kp
        clear hK K0
        try simp only [Act.put, List.setIfInBounds_toArray, List.set_cons_zero, List.set_cons_succ]
        refine takeD (i := 7) (d := some 88) (v := ?_) _ rfl rfl (by kernel_rfl) (by kernel_rfl) (by kernel_rfl) (fun _ _ _ h => h) (by rfl) ?_ (by assumption) ?_
        rotate_left
        · (intro w hSw; (try dsimp only at hSw); go_simp) <;> with_reducible rfl
        try simp only [Act.put, List.setIfInBounds_toArray, List.set_cons_zero, List.set_cons_succ]
        refine takeD (i := 8) (d := some 96) (v := ?_) _ rfl rfl (by kernel_rfl) (by kernel_rfl) (by kernel_rfl) (fun _ _ _ h => h) (by rfl) ?_ (by assumption) ?_
        rotate_left
        · (intro w hSw; (try dsimp only at hSw); go_simp) <;> with_reducible rfl
        try simp only [Act.put, List.setIfInBounds_toArray, List.set_cons_zero, List.set_cons_succ]
        refine takeD (i := 9) (d := some 97) (v := ?_) _ rfl rfl (by kernel_rfl) (by kernel_rfl) (by kernel_rfl) (fun _ _ _ h => h) (by rfl) ?_ (by assumption) ?_
        rotate_left
        · (intro w hSw; (try dsimp only at hSw); go_simp) <;> with_reducible rfl
        try simp only [Act.put, List.setIfInBounds_toArray, List.set_cons_zero, List.set_cons_succ]
        have x0 : w5.cell? ⟨bx, 0, none⟩ = some (.int .i64 s2.mode) := by rw [(row_cell X5.out 0).1]; rfl
        have xz0 : w5.frozen? ⟨bx, 0, none⟩ = false := (row_cell X5.out 0).2
        have x1 : w5.cell? ⟨bx, 1, none⟩ = some (.int .i64 s2.starts) := by rw [(row_cell X5.out 1).1]; rfl
        have xz1 : w5.frozen? ⟨bx, 1, none⟩ = false := (row_cell X5.out 1).2
        have x2 : w5.cell? ⟨bx, 2, none⟩ = some (.int .i64 s2.left) := by rw [(row_cell X5.out 2).1]; rfl
        have xz2 : w5.frozen? ⟨bx, 2, none⟩ = false := (row_cell X5.out 2).2
        have x3 : w5.cell? ⟨bx, 3, none⟩ = some (.int .i64 n) := by rw [(row_cell X5.out 3).1]; rfl
        have xz3 : w5.frozen? ⟨bx, 3, none⟩ = false := (row_cell X5.out 3).2
        have BZ := box4 X5.out (.int .i64 (actS s2 z).mode) (.int .i64 (actS s2 z).starts) (.int .i64 (actS s2 z).left) (.int .i64 n)
        have kp := (BZ.2.cell (fun e => by have h6 : b = bx := e; have := HBL.out; have := HLPH.out.ll.2; omega) hHeld : ((((w5.setCell ⟨bx, 0, none⟩ (.int .i64 (actS s2 z).mode)).setCell ⟨bx, 1, none⟩ (.int .i64 (actS s2 z).starts)).setCell ⟨bx, 2, none⟩ (.int .i64 (actS s2 z).left)).setCell ⟨bx, 3, none⟩ (.int .i64 n)).cell? ⟨b, off + j, none⟩ = some (.int .i64 z))
        have P7 := Lib.hid (LP.put HLPH.out P5.out X5.out B5.out (actS_sum HLPH.out.hf z))
        have F7 : Hid (Fo (fun b => b = cb ∨ b = bx) wr ((((w5.setCell ⟨bx, 0, none⟩ (.int .i64 (actS s2 z).mode)).setCell ⟨bx, 1, none⟩ (.int .i64 (actS s2 z).starts)).setCell ⟨bx, 2, none⟩ (.int .i64 (actS s2 z).left)).setCell ⟨bx, 3, none⟩ (.int .i64 n))) := F5.out.trans BZ.2 (fun i hi => .inl (.inr hi))
        clear BZ
        refine wpAnyH_ready (rs := [10]) (by kernel_rfl) (by simp) ?_
        refine AllReadyH.cons rfl (fun K0 hK => ?_) AllReadyH.nil
        try go_simp
        refine hK.out _ _ kp (fun hHeld => ?_)
        clear kp
        clear hK K0
        try simp only [Act.put, List.setIfInBounds_toArray, List.set_cons_zero, List.set_cons_succ]
        refine wpAnyH_done (by kernel_rfl) ?_ _
        clear hHeld x0 xz0 x1 xz1 x2 xz2 x3 xz3 P5 X5 B5 F5
        obtain ⟨w7, hw7⟩ : ∃ W, ((((w5.setCell ⟨bx, 0, none⟩ (.int .i64 (actS s2 z).mode)).setCell ⟨bx, 1, none⟩ (.int .i64 (actS s2 z).starts)).setCell ⟨bx, 2, none⟩ (.int .i64 (actS s2 z).left)).setCell ⟨bx, 3, none⟩ (.int .i64 n)) = W := ⟨_, rfl⟩
        rw [hw7] at P7 F7
        rw [hw7]
        clear hw7
        have HC7 : Hid (CP lo bw cb bx w w7 s (actS s2 z) n) := ⟨⟨HCP.out.a.lv.fo F7.out (fun e => by rcases e with e | e; exact HCP.out.ap.1 e; exact HCP.out.ap.2.1 e), (F7.out.block bw HCP.out.a.blt (fun e => by rcases e with e | e; exact HCP.out.ap.2.2.1 e; exact HCP.out.ap.2.2.2 e)).trans HCP.out.a.bx, HCP.out.a.ne, HCP.out.a.ll, P7.out.be, HCP.out.a.hf⟩, P7.out, HCP.out.ap⟩
        clear F7 P7 HLPH HCP
        obtain ⟨s3, hs3⟩ : ∃ x, actS s2 z = x := ⟨_, rfl⟩
        rw [hs3] at HC7
        rw [hs3]
        clear hs3
        obtain ⟨x0, x1, x2, x3⟩ := HC7.out.a.box
        obtain ⟨y0, y1, y2, y3⟩ := HC7.out.b.box
        have he2 := ref_eql s s3 n
        have CA : Hid (∀ W, Below w7.heap.size w7 W → Calls Try.prog 13 #[.pointer (some ⟨lo, 0, none⟩), RA s n] W fun e w' => e = .returned (.bool true) ∧ Below W.heap.size W w') := fun W hb => lsame_any lo s n W (HC7.out.a.lv.below hb)
        have CB : Hid (∀ W, Below w7.heap.size w7 W → Calls Try.prog 13 #[.pointer (some ⟨cb, 0, none⟩), RA s3 n] W fun e w' => e = .returned (.bool true) ∧ Below W.heap.size W w') := fun W hb => lsame_any cb s3 n W (HC7.out.b.lv.below hb)
        have CC : Hid (∀ W, Below w7.heap.size w7 W → Calls Try.prog 21 #[.pointer (some ⟨lo, 0, none⟩), .pointer (some ⟨cb, 0, none⟩)] W fun e w' => e = .returned (.bool (s.eqB s3)) ∧ Below W.heap.size W w') := fun W hb => same_any lo cb s s3 W (HC7.out.a.lv.below hb) (HC7.out.b.lv.below hb)
        obtain ⟨bb, hbb⟩ : ∃ b, s.eqB s3 = b := ⟨_, rfl⟩
        rw [hbb] at CC he2
        clear hbb
        go_upto_region 18 with fail
        refine wp_region_held_drew (S := (fun w' => Below w7.heap.size w7 w' ∧ w'.cell? ⟨bw, 0, none⟩ = some (.int .i64 s.mode) ∧ w'.cell? ⟨bw, 1, none⟩ = some (.int .i64 s.starts) ∧ w'.cell? ⟨bw, 2, none⟩ = some (.int .i64 s.left) ∧ w'.cell? ⟨bw, 3, none⟩ = some (.int .i64 n) ∧ w'.cell? ⟨bx, 0, none⟩ = some (.int .i64 s3.mode) ∧ w'.cell? ⟨bx, 1, none⟩ = some (.int .i64 s3.starts) ∧ w'.cell? ⟨bx, 2, none⟩ = some (.int .i64 s3.left) ∧ w'.cell? ⟨bx, 3, none⟩ = some (.int .i64 n))) (by kernel_rfl) ?_ (fun hHeld => ?_)
        · exact ⟨(Below.refl _ _).drew, x0, x1, x2, x3, y0, y1, y2, y3⟩
        clear x0 x1 x2 x3 y0 y1 y2 y3
        refine takeD (i := 0) (d := some 98) (v := ?_) _ rfl rfl (by kernel_rfl) (by kernel_rfl) (by kernel_rfl) (fun _ _ _ h => h) (by rfl) ?_ (by assumption) ?_
        rotate_left
        · (intro w hSw; (try dsimp only at hSw); go_simp) <;> with_reducible rfl
        try simp only [Act.put, List.setIfInBounds_toArray, List.set_cons_zero, List.set_cons_succ]
        refine takeD (i := 1) (d := some 99) (v := ?_) _ rfl rfl (by kernel_rfl) (by kernel_rfl) (by kernel_rfl) (fun _ _ _ h => h) (by rfl) ?_ (by assumption) ?_
        rotate_left
        · (intro w hSw; (try dsimp only at hSw); go_simp) <;> with_reducible rfl
        try simp only [Act.put, List.setIfInBounds_toArray, List.set_cons_zero, List.set_cons_succ]
        refine wpAnyH_ready (rs := [2]) (by kernel_rfl) (by simp) ?_
        refine AllReadyH.cons rfl (fun K0 hK => ?_) AllReadyH.nil
        try go_simp
        go_at_call 13
        refine (CA.out _ hHeld.1).mono ?_
        rintro e wx ⟨rfl, hb2⟩
        have kp := (⟨hHeld.1.trans (hb2.mono hHeld.1.size), cell_later hb2 (hHeld.2.1), cell_later hb2 (hHeld.2.2.1), cell_later hb2 (hHeld.2.2.2.1), cell_later hb2 (hHeld.2.2.2.2.1), cell_later hb2 (hHeld.2.2.2.2.2.1), cell_later hb2 (hHeld.2.2.2.2.2.2.1), cell_later hb2 (hHeld.2.2.2.2.2.2.2.1), cell_later hb2 (hHeld.2.2.2.2.2.2.2.2)⟩ : Below w7.heap.size w7 wx ∧ wx.cell? ⟨bw, 0, none⟩ = some (.int .i64 s.mode) ∧ wx.cell? ⟨bw, 1, none⟩ = some (.int .i64 s.starts) ∧ wx.cell? ⟨bw, 2, none⟩ = some (.int .i64 s.left) ∧ wx.cell? ⟨bw, 3, none⟩ = some (.int .i64 n) ∧ wx.cell? ⟨bx, 0, none⟩ = some (.int .i64 s3.mode) ∧ wx.cell? ⟨bx, 1, none⟩ = some (.int .i64 s3.starts) ∧ wx.cell? ⟨bx, 2, none⟩ = some (.int .i64 s3.left) ∧ wx.cell? ⟨bx, 3, none⟩ = some (.int .i64 n))
        clear hb2
        try go_wp2_with fail
        refine hK.out _ _ kp (fun hHeld => ?_)
        clear kp hK K0
        try simp only [Act.put, List.setIfInBounds_toArray, List.set_cons_zero, List.set_cons_succ]
        refine takeD (i := 3) (d := some 101) (v := ?_) _ rfl rfl (by kernel_rfl) (by kernel_rfl) (by kernel_rfl) (fun _ _ _ h => h) (by rfl) ?_ (by assumption) ?_
        rotate_left
        · (intro w hSw; (try dsimp only at hSw); go_simp) <;> with_reducible rfl
        try simp only [Act.put, List.setIfInBounds_toArray, List.set_cons_zero, List.set_cons_succ]
        refine takeD (i := 4) (d := some 102) (v := ?_) _ rfl rfl (by kernel_rfl) (by kernel_rfl) (by kernel_rfl) (fun _ _ _ h => h) (by rfl) ?_ (by assumption) ?_
        rotate_left
        · (intro w hSw; (try dsimp only at hSw); go_simp) <;> with_reducible rfl
        try simp only [Act.put, List.setIfInBounds_toArray, List.set_cons_zero, List.set_cons_succ]
        refine takeD (i := 5) (d := some 103) (v := ?_) _ rfl rfl (by kernel_rfl) (by kernel_rfl) (by kernel_rfl) (fun _ _ _ h => h) (by rfl) ?_ (by assumption) ?_
        rotate_left
        · (intro w hSw; (try dsimp only at hSw); go_simp) <;> with_reducible rfl
        try simp only [Act.put, List.setIfInBounds_toArray, List.set_cons_zero, List.set_cons_succ]
        refine takeD (i := 6) (d := some 104) (v := ?_) _ rfl rfl (by kernel_rfl) (by kernel_rfl) (by kernel_rfl) (fun _ _ _ h => h) (by rfl) ?_ (by assumption) ?_
        rotate_left
        · (intro w hSw; (try dsimp only at hSw); go_simp) <;> with_reducible rfl
        try simp only [Act.put, List.setIfInBounds_toArray, List.set_cons_zero, List.set_cons_succ]
        refine wpAnyH_ready (rs := [7]) (by kernel_rfl) (by simp) ?_
        refine AllReadyH.cons rfl (fun K0 hK => ?_) AllReadyH.nil
        try go_simp
        go_at_call 13
        refine (CB.out _ hHeld.1).mono ?_
        rintro e wx ⟨rfl, hb2⟩
        have kp := (⟨hHeld.1.trans (hb2.mono hHeld.1.size), cell_later hb2 (hHeld.2.1), cell_later hb2 (hHeld.2.2.1), cell_later hb2 (hHeld.2.2.2.1), cell_later hb2 (hHeld.2.2.2.2.1), cell_later hb2 (hHeld.2.2.2.2.2.1), cell_later hb2 (hHeld.2.2.2.2.2.2.1), cell_later hb2 (hHeld.2.2.2.2.2.2.2.1), cell_later hb2 (hHeld.2.2.2.2.2.2.2.2)⟩ : Below w7.heap.size w7 wx ∧ wx.cell? ⟨bw, 0, none⟩ = some (.int .i64 s.mode) ∧ wx.cell? ⟨bw, 1, none⟩ = some (.int .i64 s.starts) ∧ wx.cell? ⟨bw, 2, none⟩ = some (.int .i64 s.left) ∧ wx.cell? ⟨bw, 3, none⟩ = some (.int .i64 n) ∧ wx.cell? ⟨bx, 0, none⟩ = some (.int .i64 s3.mode) ∧ wx.cell? ⟨bx, 1, none⟩ = some (.int .i64 s3.starts) ∧ wx.cell? ⟨bx, 2, none⟩ = some (.int .i64 s3.left) ∧ wx.cell? ⟨bx, 3, none⟩ = some (.int .i64 n))
        clear hb2
        try go_wp2_with fail
        refine hK.out _ _ kp (fun hHeld => ?_)
        clear kp hK K0
        try simp only [Act.put, List.setIfInBounds_toArray, List.set_cons_zero, List.set_cons_succ]
        refine takeD (i := 8) (d := some 106) (v := ?_) _ rfl rfl (by kernel_rfl) (by kernel_rfl) (by kernel_rfl) (fun _ _ _ h => h) (by rfl) ?_ (by assumption) ?_
        rotate_left
        · (intro w hSw; (try dsimp only at hSw); go_simp) <;> with_reducible rfl
        try simp only [Act.put, List.setIfInBounds_toArray, List.set_cons_zero, List.set_cons_succ]
        refine takeD (i := 9) (d := some 107) (v := ?_) _ rfl rfl (by kernel_rfl) (by kernel_rfl) (by kernel_rfl) (fun _ _ _ h => h) (by rfl) ?_ (by assumption) ?_
        rotate_left
        · (intro w hSw; (try dsimp only at hSw); go_simp) <;> with_reducible rfl
        try simp only [Act.put, List.setIfInBounds_toArray, List.set_cons_zero, List.set_cons_succ]
        refine takeD (i := 10) (d := some 108) (v := ?_) _ rfl rfl (by kernel_rfl) (by kernel_rfl) (by kernel_rfl) (fun _ _ _ h => h) (by rfl) ?_ (by assumption) ?_
        rotate_left
        · (intro w hSw; (try dsimp only at hSw); go_simp) <;> with_reducible rfl
        try simp only [Act.put, List.setIfInBounds_toArray, List.set_cons_zero, List.set_cons_succ]
        refine takeD (i := 11) (d := some 109) (v := ?_) _ rfl rfl (by kernel_rfl) (by kernel_rfl) (by kernel_rfl) (fun _ _ _ h => h) (by rfl) ?_ (by assumption) ?_
        rotate_left
        · (intro w hSw; (try dsimp only at hSw); go_simp) <;> with_reducible rfl
        try simp only [Act.put, List.setIfInBounds_toArray, List.set_cons_zero, List.set_cons_succ]
        refine takeD (i := 12) (d := some 110) (v := ?_) _ rfl rfl (by kernel_rfl) (by kernel_rfl) (by kernel_rfl) (fun _ _ _ h => h) (by rfl) ?_ (by assumption) ?_
        rotate_left
        · (intro w hSw; (try dsimp only at hSw); go_simp) <;> with_reducible rfl
        try simp only [Act.put, List.setIfInBounds_toArray, List.set_cons_zero, List.set_cons_succ]
        refine takeD (i := 14) (d := some 112) (v := ?_) _ rfl rfl (by kernel_rfl) (by kernel_rfl) (by kernel_rfl) (fun _ _ _ h => h) (by rfl) ?_ (by assumption) ?_
        rotate_left
        · (intro w hSw; (try dsimp only at hSw); go_simp) <;> with_reducible rfl
        try simp only [Act.put, List.setIfInBounds_toArray, List.set_cons_zero, List.set_cons_succ]
        refine takeD (i := 15) (d := some 113) (v := ?_) _ rfl rfl (by kernel_rfl) (by kernel_rfl) (by kernel_rfl) (fun _ _ _ h => h) (by rfl) ?_ (by assumption) ?_
        rotate_left
        · (intro w hSw; (try dsimp only at hSw); go_simp) <;> with_reducible rfl
        try simp only [Act.put, List.setIfInBounds_toArray, List.set_cons_zero, List.set_cons_succ]
        refine takeD (i := 16) (d := some 114) (v := ?_) _ rfl rfl (by kernel_rfl) (by kernel_rfl) (by kernel_rfl) (fun _ _ _ h => h) (by rfl) ?_ (by assumption) ?_
        rotate_left
        · (intro w hSw; (try dsimp only at hSw); go_simp) <;> with_reducible rfl
        try simp only [Act.put, List.setIfInBounds_toArray, List.set_cons_zero, List.set_cons_succ]
        refine wpAnyH_ready (rs := [13]) (by kernel_rfl) (by simp) ?_
        refine AllReadyH.cons rfl (fun K0 hK => ?_) AllReadyH.nil
        try go_simp
        go_at_call 21
        refine (CC.out _ hHeld.1).mono ?_
        rintro e wx ⟨rfl, hb2⟩
        have kp := (⟨hHeld.1.trans (hb2.mono hHeld.1.size), cell_later hb2 (hHeld.2.1), cell_later hb2 (hHeld.2.2.1), cell_later hb2 (hHeld.2.2.2.1), cell_later hb2 (hHeld.2.2.2.2.1), cell_later hb2 (hHeld.2.2.2.2.2.1), cell_later hb2 (hHeld.2.2.2.2.2.2.1), cell_later hb2 (hHeld.2.2.2.2.2.2.2.1), cell_later hb2 (hHeld.2.2.2.2.2.2.2.2)⟩ : Below w7.heap.size w7 wx ∧ wx.cell? ⟨bw, 0, none⟩ = some (.int .i64 s.mode) ∧ wx.cell? ⟨bw, 1, none⟩ = some (.int .i64 s.starts) ∧ wx.cell? ⟨bw, 2, none⟩ = some (.int .i64 s.left) ∧ wx.cell? ⟨bw, 3, none⟩ = some (.int .i64 n) ∧ wx.cell? ⟨bx, 0, none⟩ = some (.int .i64 s3.mode) ∧ wx.cell? ⟨bx, 1, none⟩ = some (.int .i64 s3.starts) ∧ wx.cell? ⟨bx, 2, none⟩ = some (.int .i64 s3.left) ∧ wx.cell? ⟨bx, 3, none⟩ = some (.int .i64 n))
        clear hb2
        try go_wp2_with fail
        refine hK.out _ _ kp (fun hHeld => ?_)
        clear kp hK K0
        try simp only [Act.put, List.setIfInBounds_toArray, List.set_cons_zero, List.set_cons_succ]
        refine takeD (i := 17) (d := some 115) (v := ?_) _ rfl rfl (by kernel_rfl) (by kernel_rfl) (by kernel_rfl) (fun _ _ _ h => h) (by rfl) ?_ (by assumption) ?_
        rotate_left
        · (intro w hSw; (try dsimp only at hSw); go_simp) <;> with_reducible rfl
        try simp only [Act.put, List.setIfInBounds_toArray, List.set_cons_zero, List.set_cons_succ]
        refine takeD (i := 18) (d := some 116) (v := ?_) _ rfl rfl (by kernel_rfl) (by kernel_rfl) (by kernel_rfl) (fun _ _ _ h => h) (by rfl) ?_ (by assumption) ?_
        rotate_left
        · (intro w hSw; (try dsimp only at hSw); go_simp) <;> with_reducible rfl
        try simp only [Act.put, List.setIfInBounds_toArray, List.set_cons_zero, List.set_cons_succ]
        refine wpAnyH_done (by kernel_rfl) ?_ _
        have P9 := Lib.hid (HC7.out.below hHeld.1)
        clear hHeld HC7 CA CB CC he2
        have hbn : (bb != bb) = false := by cases bb <;> rfl
        go_wp2_with fail
        go_roundw
        case rel =>
          have Q : AR2 lo bw cb bx len2 s n w (.int .i64 ((j : Int) + 1)) _ := ⟨⟨j + 1, s3, HX.out, by go_num, P9.out⟩⟩
          first | exact Q | ((repeat apply Exists.intro); exact ⟨Q, rfl⟩)
        case measure => have := HX.out; simp [intOf]; omega
    case rest =>
      obtain ⟨w3, hw3⟩ : ∃ w', w' = wc := ⟨_, rfl⟩
      subst hw3
      have B3 := Lib.hid hcut
      clear hcut
      go_wp2_with fail
      go_ret
      exact ⟨rfl, B3.out⟩
end Go.Proofs.Ytiellkodjhfhhaa.Lf
