/-
  LinkClones' walk. Each statement bears its own conditions.
-/
import Derived.Test.YtkbjonblflhkoaaLnN
namespace Go.Proofs.Ytkbjonblflhkoaa.Ln
open Go.RowKit Go.Proofs.Ytkbjonblflhkoaa.F Go.Proofs.Ytkbjonblflhkoaa.U Go.Proofs.Ytkbjonblflhkoaa.Q
set_option linter.unusedVariables false
set_option linter.unusedSimpArgs false
structure C1R (lo g Rb len : Nat) (w0 : World) (iv : Value) (wr : World) : Prop where
  ex : ∃ (i : Nat) (p : Nat → Prop) (s : SS) (LL : List (List Int)) (A : Option Addr) (n c : Nat) (S : List Sl), i ≤ len ∧ i ≤ 40 ∧ iv = .int .i64 (i : Int) ∧ PL lo g Rb w0 wr p g s LL s A n c ∧ RF (fun b => b = Rb) wr p A n c S LL
structure C1C (lo g Rb : Nat) (w0 : World) (sv : Value) (wr : World) : Prop where
  ex : ∃ (p : Nat → Prop) (s : SS) (LL : List (List Int)) (A : Option Addr) (n c : Nat) (S : List Sl), sv = .pointer (some ⟨g, 0, none⟩) ∧ PL lo g Rb w0 wr p g s LL s A n c ∧ RF (fun b => b = Rb) wr p A n c S LL
structure C2R (lc gc Rx len : Nat) (w7 : World) (iv : Value) (wr : World) : Prop where
  ex : ∃ (i : Nat) (q : Nat → Prop) (s : SS) (LL : List (List Int)) (A : Option Addr) (n c : Nat) (S : List Sl), i ≤ len ∧ i ≤ 40 ∧ iv = .int .i64 (i : Int) ∧ PL lc lc Rx w7 wr q gc s LL s A n c ∧ RF (fun b => b = Rx) wr q A n c S LL
theorem heap_of_cell {w : World} {g o : Nat} {v : Value} (h : w.cell? ⟨g, o, none⟩ = some v) : ∃ C t fr, w.heap[g]? = some (.cells C t fr) := by
  unfold World.cell? at h
  cases e : w.heap[g]? with
  | none => simp [e] at h
  | some ob =>
    cases ob with
    | cells C t fr => exact ⟨C, t, fr, rfl⟩
    | _ => simp [e] at h
theorem run_sameAddr_far {P : Program} {w : World} {g1 g2 o1 o2 : Nat} {v1 v2 : Value} (hbl : g1 ≠ g2) (c1 : w.cell? ⟨g1, o1, none⟩ = some v1) (c2 : w.cell? ⟨g2, o2, none⟩ = some v2) (f1 : ∀ o, w.frozen? ⟨g1, o, none⟩ = false) (f2 : ∀ o, w.frozen? ⟨g2, o, none⟩ = false) :
    (sameAddr ⟨g1, 0, none⟩ ⟨g2, 0, none⟩).run P w = .ok false w := by
  obtain ⟨C1, t1, r1, h1⟩ := heap_of_cell c1
  obtain ⟨C2, t2, r2, h2⟩ := heap_of_cell c2
  simp [sameAddr, hbl, noView, viewAt, World.shape?, mayBeOne, stringish, h1, h2, f1, f2]
theorem cl_info : (Try.prog.info? 87).map (fun i => decide (i.size = 0)) = some false := by kernel_rfl
theorem run_ptr_far {w : World} {g1 g2 o1 o2 : Nat} {v1 v2 : Value} (hbl : g1 ≠ g2) (c1 : w.cell? ⟨g1, o1, none⟩ = some v1) (c2 : w.cell? ⟨g2, o2, none⟩ = some v2) (f1 : ∀ o, w.frozen? ⟨g1, o, none⟩ = false) (f2 : ∀ o, w.frozen? ⟨g2, o, none⟩ = false) :
    (binOp .eql 24 (.pointer (some ⟨g1, 0, none⟩)) (.pointer (some ⟨g2, 0, none⟩))).run Try.prog w = .ok (.bool false) w := by
  have hp : Try.prog.underlying 24 = some (.pointer 87) := Try.underlying24
  have h0 := cl_info
  cases hte : Try.prog.info? 87 with
  | none => rw [hte] at h0; simp at h0
  | some j =>
    rw [hte] at h0
    simp only [Option.map_some, Option.some.injEq, decide_eq_false_iff_not] at h0
    have hsz : j.size ≠ 0 := h0
    have h : ∀ d : Nat, (Op.equalIn (d + 1) 24 (.pointer (some ⟨g1, 0, none⟩)) (.pointer (some ⟨g2, 0, none⟩))).run Try.prog w = .ok false w := fun d => by
      simp [Op.equalIn, run_underlying hp, sizeOf, typeInfo, hte, hsz, run_sameAddr_far hbl c1 c2 f1 f2]
    simp only [binOp]
    simp [Op.equal, Op.maxDepth, h 9999]
set_option maxRecDepth 100000 in
set_option maxHeartbeats 64000000 in
theorem clones_walk (a0 a1 a2 : Int) (ar : Option Addr) (len cap : Nat) (m1 : List OC) (ar2 : Option Addr) (len2 cap2 : Nat) (m2 : List OC) (w : World) (h1 : Row w 3 (RO w) (.slice ar len cap) m1) (h2 : Row w 3 (RO w) (.slice ar2 len2 cap2) m2) : Calls Try.prog 8 #[.agg #[.int .i64 a0, .int .i64 a1, .int .i64 a2], .slice ar len cap, .slice ar2 len2 cap2] w fun e w' => e = .returned (.bool true) ∧ Below w.heap.size w w' := by
  have HR : Hid (∀ i, i < len → ∃ b off kd now Am m cm M, ar = some ⟨b, off, none⟩ ∧ OX w.heap.size w b (off + i * 3) kd now Am m cm M) := fun i hi => OX.of h1 hi
  have HR2 : Hid (∀ i, i < len2 → ∃ b off kd now Am m cm M, ar2 = some ⟨b, off, none⟩ ∧ OX w.heap.size w b (off + i * 3) kd now Am m cm M) := fun i hi => OX.of h2 hi
  clear h1 h2
  have he1 := he_se
  obtain ⟨lo, hlo⟩ : ∃ lo, w.heap.size = lo := ⟨_, rfl⟩
  have HLO := Lib.hid hlo
  obtain ⟨wA, hwA⟩ : ∃ W, w.alloc (.cells #[.int .i64 a0, .int .i64 a1, .int .i64 a2] 22) = W := ⟨_, rfl⟩
  have BA : Hid (Below lo w wA) := by rw [← hwA, ← hlo]; exact (Below.refl _ _).alloc (Nat.le_refl _) _
  have HA : Hid (wA.heap[lo]? = some (.cells #[.int .i64 a0, .int .i64 a1, .int .i64 a2] 22 (0, 0)) ∧ wA.heap.size = lo + 1) := by rw [← hwA, ← hlo]; exact ⟨heap_alloc_new _ _, by simp⟩
  have x0 : wA.cell? ⟨lo, 0, none⟩ = some (.int .i64 a0) := by rw [(row_cell HA.out.1 0).1]; rfl
  have x1 : wA.cell? ⟨lo, 1, none⟩ = some (.int .i64 a1) := by rw [(row_cell HA.out.1 1).1]; rfl
  have x2 : wA.cell? ⟨lo, 2, none⟩ = some (.int .i64 a2) := by rw [(row_cell HA.out.1 2).1]; rfl
  rw [hlo]
  have BG := Lib.hid (begin_any a0 a1 a2 wA)
  obtain ⟨g, hg⟩ : ∃ g, wA.heap.size + 2 = g := ⟨_, rfl⟩
  rw [hg] at BG
  have HGL : Hid (lo + 3 = g ∧ wA.heap.size = lo + 1) := by have := HA.out.2; unfold Hid; omega
  clear hg
  go_enter Try.func8, Try.ntmps8
  go_wp2_with fail
  refine BG.out.mono ?_
  rintro e w2 ⟨s, rfl, q2, b2⟩
  have Q2 := Lib.hid q2
  have B2 : Hid (Below lo w w2) := BA.out.trans (b2.mono (by have := HGL.out; omega))
  clear q2 b2 BG hwA x0 x1 x2
  have hx : Below w2.heap.size w2 (w2.alloc (.cells #[.int .i64 s.gap, .int .i64 s.words, .int .i64 s.room, .slice none 0 0, .int .i64 s.next, .int .i64 s.rl] 27)) := (Below.refl _ _).alloc (Nat.le_refl _) _
  have HP3 : Hid (PL lo g w2.heap.size w (w2.alloc (.cells #[.int .i64 s.gap, .int .i64 s.words, .int .i64 s.room, .slice none 0 0, .int .i64 s.next, .int .i64 s.rl] 27)) (fun x => x = g) g s [] s none 0 0) := ⟨Q2.out.below hx, heap_alloc_new _ _, fun e => by have := Q2.out.lt; omega, ⟨by have := B2.out.size; have := HLO.out; omega, by have := HGL.out; omega⟩, B2.out.trans (hx.mono (by have := B2.out.size; have := HLO.out; omega))⟩
  have HF3 : Hid (RF (fun b => b = w2.heap.size) (w2.alloc (.cells #[.int .i64 s.gap, .int .i64 s.words, .int .i64 s.room, .slice none 0 0, .int .i64 s.next, .int .i64 s.rl] 27)) (fun x => x = g) none 0 0 [] []) := ⟨Sq.nil _ _, Ms.nil _ _, Nat.le_refl _⟩
  obtain ⟨Rb, hRb⟩ : ∃ b, w2.heap.size = b := ⟨_, rfl⟩
  obtain ⟨w3, hw3⟩ : ∃ W, w2.alloc (.cells #[.int .i64 s.gap, .int .i64 s.words, .int .i64 s.room, .slice none 0 0, .int .i64 s.next, .int .i64 s.rl] 27) = W := ⟨_, rfl⟩
  rw [hRb, hw3] at HP3 HF3
  clear hx Q2 B2
  go_wp2_with fail
  refine (told_any w3).mono ?_
  rintro e w4 ⟨rfl, b4⟩
  have HP4 := Lib.hid (HP3.out.below b4)
  have HF4 := Lib.hid (HF3.out.below b4)
  clear b4 HP3 HF3 hRb hw3
  go_upto_block 0 with fail
  go_cut [7] (fun sv wx => C1C lo g Rb w sv wx)
  case first =>
    go_wp2_with fail
    go_loopw [9] (fun iv wr => C1R lo g Rb len w iv wr) (fun i _ => len - (intOf i).toNat)
    case atStart => exact ⟨⟨0, _, s, [], none, 0, 0, [], Nat.zero_le _, Nat.zero_le _, rfl, HP4.out, HF4.out⟩⟩
    case round =>
      clear HP4 HF4
      obtain ⟨⟨i, p, s, LL, A, n, c, S, hi, hi2, rfl, hp, hf⟩⟩ := hrel
      have HP := Lib.hid hp
      have HF := Lib.hid hf
      clear hp hf
      by_cases hlt : i < len ∧ i < 40
      rotate_left
      · by_cases h1 : i < len
        · have g3 : (i : Int) < (len : Int) := by omega
          have g5 : (40 : Int) ≤ (i : Int) := by omega
          clear hlt hi hi2
          go_wp2_with fail
          go_meet
          case rel => exact ⟨⟨p, s, LL, A, n, c, S, rfl, HP.out, HF.out⟩⟩
        · have g3 : ¬ (i : Int) < (len : Int) := by omega
          clear hlt hi hi2
          go_wp2_with fail
          go_meet
          case rel => exact ⟨⟨p, s, LL, A, n, c, S, rfl, HP.out, HF.out⟩⟩
      have HX : Hid (i < len ∧ i < 40) := hlt
      have hiI : (i : Int) < (len : Int) := by omega
      have hiN : i < len := hlt.1
      have hi40 : (i : Int) < 40 := by omega
      have HLW : Hid (lo ≤ wr.heap.size) := HP.out.nil
      have HLO2 : Hid (lo ≤ g) := HP.out.ll.2
      obtain ⟨b, off, kd, now, Am, m, cm, M, hA, ho⟩ := HR.out i hlt.1
      subst hA
      rw [HLO.out] at ho
      have HO := Lib.hid (ho.low (HP.out.be))
      clear ho hlt hi hi2
      have y0 := HO.out.c0
      have y1 := HO.out.c1
      have y2 := HO.out.c2
      have x0 : wr.cell? ⟨Rb, 0, none⟩ = some (.int .i64 s.gap) := by rw [(row_cell HP.out.bx 0).1]; rfl
      have x1 : wr.cell? ⟨Rb, 1, none⟩ = some (.int .i64 s.words) := by rw [(row_cell HP.out.bx 1).1]; rfl
      have x2 : wr.cell? ⟨Rb, 2, none⟩ = some (.int .i64 s.room) := by rw [(row_cell HP.out.bx 2).1]; rfl
      have x3 : wr.cell? ⟨Rb, 3, none⟩ = some (.slice A n c) := by rw [(row_cell HP.out.bx 3).1]; rfl
      have x4 : wr.cell? ⟨Rb, 4, none⟩ = some (.int .i64 s.next) := by rw [(row_cell HP.out.bx 4).1]; rfl
      have x5 : wr.cell? ⟨Rb, 5, none⟩ = some (.int .i64 s.rl) := by rw [(row_cell HP.out.bx 5).1]; rfl
      go_wp2_with fail
      refine wp_region_held_drew (S := (fun w' => w'.cell? ⟨b, off + i * 3, none⟩ = some (.int .i64 kd) ∧ w'.cell? ⟨b, off + i * 3 + 1, none⟩ = some (.int .i64 now) ∧ w'.cell? ⟨b, off + i * 3 + 2, none⟩ = some (.slice Am m cm))) (by kernel_rfl) ?_ (fun hHeld => ?_)
      · exact ⟨y0, y1, y2⟩
      refine takeD (i := 0) (d := some 35) (v := ?_) _ rfl rfl (by kernel_rfl) (by kernel_rfl) (by kernel_rfl) (fun _ _ _ h => h) (by rfl) ?_ (by assumption) ?_
      rotate_left
      · (intro w hSw; (try dsimp only at hSw); go_simp) <;> with_reducible rfl
      try simp only [Act.put, List.setIfInBounds_toArray, List.set_cons_zero, List.set_cons_succ]
      refine takeD (i := 2) (d := some 37) (v := ?_) _ rfl rfl (by kernel_rfl) (by kernel_rfl) (by kernel_rfl) (fun _ _ _ h => h) (by rfl) ?_ (by assumption) ?_
      rotate_left
      · (intro w hSw; (try dsimp only at hSw); go_simp) <;> with_reducible rfl
      try simp only [Act.put, List.setIfInBounds_toArray, List.set_cons_zero, List.set_cons_succ]
      refine takeD (i := 3) (d := some 38) (v := ?_) _ rfl rfl (by kernel_rfl) (by kernel_rfl) (by kernel_rfl) (fun _ _ _ h => h) (by rfl) ?_ (by assumption) ?_
      rotate_left
      · (intro w hSw; (try dsimp only at hSw); go_simp) <;> with_reducible rfl
      try simp only [Act.put, List.setIfInBounds_toArray, List.set_cons_zero, List.set_cons_succ]
      refine takeD (i := 4) (d := some 39) (v := ?_) _ rfl rfl (by kernel_rfl) (by kernel_rfl) (by kernel_rfl) (fun _ _ _ h => h) (by rfl) ?_ (by assumption) ?_
      rotate_left
      · (intro w hSw; (try dsimp only at hSw); go_simp) <;> with_reducible rfl
      try simp only [Act.put, List.setIfInBounds_toArray, List.set_cons_zero, List.set_cons_succ]
      refine takeD (i := 5) (d := some 40) (v := ?_) _ rfl rfl (by kernel_rfl) (by kernel_rfl) (by kernel_rfl) (fun _ _ _ h => h) (by rfl) ?_ (by assumption) ?_
      rotate_left
      · (intro w hSw; (try dsimp only at hSw); go_simp) <;> with_reducible rfl
      try simp only [Act.put, List.setIfInBounds_toArray, List.set_cons_zero, List.set_cons_succ]
      obtain ⟨V, hV⟩ : ∃ V, wr.drew = V := ⟨_, rfl⟩
      have bV : Below wr.heap.size wr V := by rw [← hV]; exact (Below.refl _ _).drew
      have HP_V := Lib.hid (HP.out.below bV)
      have HF_V := Lib.hid (HF.out.below bV)
      have HO_V := Lib.hid (HO.out.low (bV.mono HLW.out))
      simp only [hV]
      rw [hV] at hHeld
      clear hV bV y0 y1 y2 x0 x1 x2 x3 x4 x5
      have x0 : V.cell? ⟨Rb, 0, none⟩ = some (.int .i64 s.gap) := by rw [(row_cell HP_V.out.bx 0).1]; rfl
      have x1 : V.cell? ⟨Rb, 1, none⟩ = some (.int .i64 s.words) := by rw [(row_cell HP_V.out.bx 1).1]; rfl
      have x2 : V.cell? ⟨Rb, 2, none⟩ = some (.int .i64 s.room) := by rw [(row_cell HP_V.out.bx 2).1]; rfl
      have x3 : V.cell? ⟨Rb, 3, none⟩ = some (.slice A n c) := by rw [(row_cell HP_V.out.bx 3).1]; rfl
      have x4 : V.cell? ⟨Rb, 4, none⟩ = some (.int .i64 s.next) := by rw [(row_cell HP_V.out.bx 4).1]; rfl
      have x5 : V.cell? ⟨Rb, 5, none⟩ = some (.int .i64 s.rl) := by rw [(row_cell HP_V.out.bx 5).1]; rfl
      refine wpAnyH_ready (rs := [1]) (by kernel_rfl) (by simp) ?_
      refine AllReadyH.cons rfl (fun K0 hK => ?_) (AllReadyH.nil)
      try go_simp
      refine hK.out _ _ hHeld (fun hHeld => ?_)
      clear x0 x1 x2 x3 x4 x5
      clear hK K0
      try simp only [Act.put, List.getElem_toArray, List.getElem_cons_succ, List.getElem_cons_zero, List.setIfInBounds_toArray, List.set_cons_zero, List.set_cons_succ]
      refine wpAnyH_ready (rs := [6]) (by kernel_rfl) (by simp) ?_
      refine AllReadyH.cons rfl (fun K0 hK => ?_) (AllReadyH.nil)
      try go_simp
      go_at_call 12
      refine (send_any g p (fun b => ¬ p b ∧ ¬ (fun b => b = Rb) b) (fun b => b < lo) g s LL A n c S kd now Am m cm M V HP_V.out.sv HF_V.out.rl (fun b hb => hb.1) HF_V.out.rm HF_V.out.cp HO_V.out.mq HO_V.out.mc HO_V.out.mn).mono ?_
      rintro e w5 ⟨q, s', LL', A', n', c', S', rfl, q5, n5, sq5, ms5, hc5⟩
      have HP5 : Hid (PL lo g Rb w w5 q g s' LL' s A n c) := HP_V.out.op q5 n5
      have HF5 : Hid (RF (fun b => b = Rb) w5 q A' n' c' S' LL') := RF.of_send (fun b hb => by rw [hb]; exact HP_V.out.blt) sq5 ms5 hc5
      have HO5 := Lib.hid (HO_V.out.low ((HP_V.out.sv.nx n5).mono HLO2.out))
      clear q5 n5 sq5 ms5 hc5 HP_V HF_V HO_V
      try go_wp2_with fail
      have hh : w5.cell? ⟨b, off + i * 3, none⟩ = some (.int .i64 kd) ∧ w5.cell? ⟨b, off + i * 3 + 1, none⟩ = some (.int .i64 now) ∧ w5.cell? ⟨b, off + i * 3 + 2, none⟩ = some (.slice Am m cm) := ⟨HO5.out.c0, HO5.out.c1, HO5.out.c2⟩
      refine hK.out _ _ hh (fun hHeld => ?_)
      clear hK K0
      try simp only [Act.put, List.getElem_toArray, List.getElem_cons_succ, List.getElem_cons_zero, List.setIfInBounds_toArray, List.set_cons_zero, List.set_cons_succ]
      refine takeD (i := 7) (d := some 34) (v := ?_) _ rfl rfl (by kernel_rfl) (by kernel_rfl) (by kernel_rfl) (fun _ _ _ h => h) (by rfl) ?_ hh ?_
      rotate_left
      · (intro w hSw; (try dsimp only at hSw); go_simp) <;> with_reducible rfl
      try simp only [Act.put, List.setIfInBounds_toArray, List.set_cons_zero, List.set_cons_succ]
      refine takeD (i := 8) (d := some 42) (v := ?_) _ rfl rfl (by kernel_rfl) (by kernel_rfl) (by kernel_rfl) (fun _ _ _ h => h) (by rfl) ?_ hh ?_
      rotate_left
      · (intro w hSw; (try dsimp only at hSw); go_simp) <;> with_reducible rfl
      try simp only [Act.put, List.setIfInBounds_toArray, List.set_cons_zero, List.set_cons_succ]
      refine takeD (i := 9) (d := some 43) (v := ?_) _ rfl rfl (by kernel_rfl) (by kernel_rfl) (by kernel_rfl) (fun _ _ _ h => h) (by rfl) ?_ hh ?_
      rotate_left
      · (intro w hSw; (try dsimp only at hSw); go_simp) <;> with_reducible rfl
      try simp only [Act.put, List.setIfInBounds_toArray, List.set_cons_zero, List.set_cons_succ]
      obtain ⟨Z, hZ⟩ : ∃ Z, ((((((w5.setCell ⟨Rb, 0, none⟩ (.int .i64 s'.gap)).setCell ⟨Rb, 1, none⟩ (.int .i64 s'.words)).setCell ⟨Rb, 2, none⟩ (.int .i64 s'.room)).setCell ⟨Rb, 3, none⟩ (.slice A' n' c')).setCell ⟨Rb, 4, none⟩ (.int .i64 s'.next)).setCell ⟨Rb, 5, none⟩ (.int .i64 s'.rl)) = Z := ⟨_, rfl⟩
      have hfz : Fo (fun b => b = Rb) w5 Z := by rw [← hZ]; exact (((((((Fo.refl (fun b => b = Rb) w5).setCell (.inl rfl) 0 _).setCell (.inl rfl) 1 _).setCell (.inl rfl) 2 _).setCell (.inl rfl) 3 _).setCell (.inl rfl) 4 _).setCell (.inl rfl) 5 _)
      have HPZ : Hid (PL lo g Rb w Z q g s' LL' s' A' n' c') := HP5.out.box hfz (by rw [← hZ]; simpa using (set_at (set_at (set_at (set_at (set_at (set_at HP5.out.bx 0 (.int .i64 s'.gap)) 1 (.int .i64 s'.words)) 2 (.int .i64 s'.room)) 3 (.slice A' n' c')) 4 (.int .i64 s'.next)) 5 (.int .i64 s'.rl)))
      have HFZ : Hid (RF (fun b => b = Rb) Z q A' n' c' S' LL') := HF5.out.far hfz (fun b hb => hb) HP5.out.ty
      have HOZ := Lib.hid (HO5.out.low (hfz.below (fun b hb => by rw [hb]; exact HP5.out.ll.1) (HP5.out.nil)))
      have x0 : w5.cell? ⟨Rb, 0, none⟩ = some (.int .i64 s.gap) := by rw [(row_cell HP5.out.bx 0).1]; rfl
      have x1 : w5.cell? ⟨Rb, 1, none⟩ = some (.int .i64 s.words) := by rw [(row_cell HP5.out.bx 1).1]; rfl
      have x2 : w5.cell? ⟨Rb, 2, none⟩ = some (.int .i64 s.room) := by rw [(row_cell HP5.out.bx 2).1]; rfl
      have x3 : w5.cell? ⟨Rb, 3, none⟩ = some (.slice A n c) := by rw [(row_cell HP5.out.bx 3).1]; rfl
      have x4 : w5.cell? ⟨Rb, 4, none⟩ = some (.int .i64 s.next) := by rw [(row_cell HP5.out.bx 4).1]; rfl
      have x5 : w5.cell? ⟨Rb, 5, none⟩ = some (.int .i64 s.rl) := by rw [(row_cell HP5.out.bx 5).1]; rfl
      have xf0 : w5.frozen? ⟨Rb, 0, none⟩ = false := (row_cell HP5.out.bx 0).2
      have xf1 : w5.frozen? ⟨Rb, 1, none⟩ = false := (row_cell HP5.out.bx 1).2
      have xf2 : w5.frozen? ⟨Rb, 2, none⟩ = false := (row_cell HP5.out.bx 2).2
      have xf3 : w5.frozen? ⟨Rb, 3, none⟩ = false := (row_cell HP5.out.bx 3).2
      have xf4 : w5.frozen? ⟨Rb, 4, none⟩ = false := (row_cell HP5.out.bx 4).2
      have xf5 : w5.frozen? ⟨Rb, 5, none⟩ = false := (row_cell HP5.out.bx 5).2
      refine wpAnyH_ready (rs := [10]) (by kernel_rfl) (by simp) ?_
      refine AllReadyH.cons rfl (fun K0 hK => ?_) (AllReadyH.nil)
      try go_simp
      try rw [hZ]
      refine hK.out _ _ ⟨HOZ.out.c0, HOZ.out.c1, HOZ.out.c2⟩ (fun hHeld => ?_)
      clear hfz hZ x0 x1 x2 x3 x4 x5 xf0 xf1 xf2 xf3 xf4 xf5 hh
      clear hK K0
      try simp only [Act.put, List.getElem_toArray, List.getElem_cons_succ, List.getElem_cons_zero, List.setIfInBounds_toArray, List.set_cons_zero, List.set_cons_succ]
      refine wpAnyH_done (by kernel_rfl) ?_ _
      clear hHeld HP5 HF5 HO5
      go_wp2_with fail
      go_roundw
      case rel =>
        have Q : C1R lo g Rb len w (.int .i64 ((i : Int) + 1)) Z := ⟨⟨i + 1, q, s', LL', A', n', c', S', by have := HX.out; omega, by have := HX.out; omega, by go_num, HPZ.out, HFZ.out⟩⟩
        first | exact Q | ((repeat apply Exists.intro); exact ⟨Q, rfl⟩)
      case measure => have := HX.out; simp [intOf]; omega
  case rest =>
    clear HP4 HF4 HR
    obtain ⟨⟨p0, s0, L0, A0, n0, c0, S0, rfl, hp, hf⟩⟩ := hcut
    obtain ⟨w7, hw7⟩ : ∃ x, wc = x := ⟨_, rfl⟩
    rw [hw7] at hp hf
    rw [hw7]
    have HS := Lib.hid hp
    have HSF := Lib.hid hf
    clear hp hf hw7
    obtain ⟨lc, hlc⟩ : ∃ x, w7.heap.size = x := ⟨_, rfl⟩
    have CA := Lib.hid (clone_any g p0 (fun _ => True) g s0 L0 w7 HS.out.sv (fun _ _ => trivial))
    rw [hlc] at CA
    have HLC : Hid (w7.heap.size = lc ∧ g < lc ∧ lo ≤ lc) := ⟨hlc, by have := HS.out.sv.lt; omega, by have := HS.out.nil; omega⟩
    clear hlc
    go_wp2_with fail
    refine CA.out.mono ?_
    rintro e w8 ⟨q8, rfl, s8, b8⟩
    have HC8 : Hid (SV lc w8 q8 (fun _ => True) lc s0 L0) := s8
    have B8 : Hid (Below lc w7 w8) := b8
    have HS8 : Hid (SV g w8 p0 (fun _ => True) g s0 L0) := HS.out.sv.below (by rw [HLC.out.1]; exact b8)
    have HEQ : Hid ((s0.eqB s0 && decide (L0 = L0)) = true) := by unfold Hid; rw [SS.eqB_self, decide_eq_true rfl]; rfl
    have hpp := run_ptr_far (w := w8) (g1 := lc) (g2 := g) (o1 := 0) (o2 := 0) (by have := HLC.out; omega) (by obtain ⟨vm, _, x, _⟩ := s8.ex; rw [(row_cell x 0).1]; rfl) (by obtain ⟨vm, _, x, _⟩ := HS8.out.ex; rw [(row_cell x 0).1]; rfl) (fun o => by obtain ⟨vm, _, x, _⟩ := s8.ex; exact (row_cell x o).2) (fun o => by obtain ⟨vm, _, x, _⟩ := HS8.out.ex; exact (row_cell x o).2)
    clear s8 b8 CA
    go_wp2_with fail
    refine (same_any lc g q8 p0 (fun _ => True) (fun _ => True) lc g s0 s0 L0 L0 w8 HC8.out HS8.out).mono ?_
    rintro e w9 ⟨he9, b9⟩
    replace he9 : e = .returned (.bool true) := by simpa [SS.eqB_self] using he9
    subst he9
    have HC9 := Lib.hid (HC8.out.below b9)
    have HS9 := Lib.hid (HS8.out.below b9)
    have B9 : Hid (Below lc w7 w9) := B8.out.trans (b9.mono HC8.out.nil)
    clear b9 HC8 HS8 B8 hpp
    go_wp2_with fail
    refine (same_any g lc p0 q8 (fun _ => True) (fun _ => True) g lc s0 s0 L0 L0 w9 HS9.out HC9.out).mono ?_
    rintro e w10 ⟨he10, b10⟩
    replace he10 : e = .returned (.bool true) := by simpa [SS.eqB_self] using he10
    subst he10
    have HC10 := Lib.hid (HC9.out.below b10)
    have B10 : Hid (Below lc w7 w10) := B9.out.trans (b10.mono HC9.out.nil)
    clear b10 HC9 HS9 B9
    go_wp2_with fail
    refine (same_nil_r g w10).mono ?_
    rintro e wz ⟨rfl, hw⟩
    have hw := hw.symm
    subst hw
    have HS10 := Lib.hid (HS.out.below (by rw [HLC.out.1]; exact B10.out))
    have HSF10 := Lib.hid (HSF.out.below (by rw [HLC.out.1]; exact B10.out))
    have x0 : w10.cell? ⟨Rb, 0, none⟩ = some (.int .i64 s0.gap) := by rw [(row_cell HS10.out.bx 0).1]; rfl
    have x1 : w10.cell? ⟨Rb, 1, none⟩ = some (.int .i64 s0.words) := by rw [(row_cell HS10.out.bx 1).1]; rfl
    have x2 : w10.cell? ⟨Rb, 2, none⟩ = some (.int .i64 s0.room) := by rw [(row_cell HS10.out.bx 2).1]; rfl
    have x3 : w10.cell? ⟨Rb, 3, none⟩ = some (.slice A0 n0 c0) := by rw [(row_cell HS10.out.bx 3).1]; rfl
    have x4 : w10.cell? ⟨Rb, 4, none⟩ = some (.int .i64 s0.next) := by rw [(row_cell HS10.out.bx 4).1]; rfl
    have x5 : w10.cell? ⟨Rb, 5, none⟩ = some (.int .i64 s0.rl) := by rw [(row_cell HS10.out.bx 5).1]; rfl
    obtain ⟨Rx, hRx⟩ : ∃ b, w10.heap.size = b := ⟨_, rfl⟩
    have hx : Below w10.heap.size w10 (w10.alloc (.cells #[.int .i64 s0.gap, .int .i64 s0.words, .int .i64 s0.room, .slice A0 n0 c0, .int .i64 s0.next, .int .i64 s0.rl] 27)) := (Below.refl _ _).alloc (Nat.le_refl _) _
    obtain ⟨w11, hw11⟩ : ∃ W, w10.alloc (.cells #[.int .i64 s0.gap, .int .i64 s0.words, .int .i64 s0.room, .slice A0 n0 c0, .int .i64 s0.next, .int .i64 s0.rl] 27) = W := ⟨_, rfl⟩
    rw [hw11] at hx
    have HPX : Hid (PL lc lc Rx w7 w11 q8 lc s0 L0 s0 A0 n0 c0) := ⟨HC10.out.below hx, by rw [← hw11, ← hRx]; exact heap_alloc_new _ _, fun e => by have := (HC10.out.low _ e).2; omega, ⟨by have := HC10.out.nil; omega, Nat.le_refl _⟩, B10.out.trans (hx.mono HC10.out.nil)⟩
    have hz7 : (fun b => b < lc) = (fun b => b < w7.heap.size) := by rw [HLC.out.1]
    have HFX : Hid (RF (fun b => b = Rx) w11 q8 A0 n0 c0 S0 L0) := ⟨(((HSF.out.rl.below (by rw [HLC.out.1]; exact B10.out)).belowP hx)).imp fun b _ hb => ⟨fun hq => by have := (HC10.out.low _ hq).1; have := HLC.out.1; omega, fun he => by have := HC10.out.nil; have := HLC.out.1; omega⟩, HSF10.out.rm.below hx, HSF.out.cp⟩
    clear hx hz7 HC10 HS10 HSF10 B10
    go_wp2_with fail
    try simp only [hw11]
    try simp only [hRx]
    clear hw11 hRx x0 x1 x2 x3 x4 x5
    go_loopw [12] (fun iv wr => C2R lc lc Rx len2 w7 iv wr) (fun i _ => len2 - (intOf i).toNat)
    case atStart => exact ⟨⟨0, _, s0, L0, A0, n0, c0, S0, Nat.zero_le _, Nat.zero_le _, rfl, HPX.out, HFX.out⟩⟩
    case round =>
      clear HPX HFX
      obtain ⟨⟨i, p, s, LL, A, n, c, S, hi, hi2, rfl, hp, hf⟩⟩ := hrel
      have HP := Lib.hid hp
      have HF := Lib.hid hf
      have HBE : Hid (Below lo w wr) := HS.out.be.trans (hp.be.mono HLC.out.2.2)
      clear hp hf
      by_cases hlt : i < len2 ∧ i < 40
      rotate_left
      · by_cases h1 : i < len2
        · have g3 : (i : Int) < (len2 : Int) := by omega
          have g5 : (40 : Int) ≤ (i : Int) := by omega
          clear hlt hi hi2
          go_wp2_with fail
          go_ret
          exact ⟨rfl, HBE.out⟩
        · have g3 : ¬ (i : Int) < (len2 : Int) := by omega
          clear hlt hi hi2
          go_wp2_with fail
          go_ret
          exact ⟨rfl, HBE.out⟩
      have HX : Hid (i < len2 ∧ i < 40) := hlt
      have hiI : (i : Int) < (len2 : Int) := by omega
      have hiN : i < len2 := hlt.1
      have hi40 : (i : Int) < 40 := by omega
      have HLW : Hid (lo ≤ wr.heap.size) := by have := HP.out.nil; have := HLC.out; unfold Hid; omega
      have HLO2 : Hid (lo ≤ lc) := HLC.out.2.2
      obtain ⟨b, off, kd, now, Am, m, cm, M, hA, ho⟩ := HR2.out i hlt.1
      subst hA
      rw [HLO.out] at ho
      have HO := Lib.hid (ho.low (HBE.out))
      clear ho hlt hi hi2
      have y0 := HO.out.c0
      have y1 := HO.out.c1
      have y2 := HO.out.c2
      have x0 : wr.cell? ⟨Rx, 0, none⟩ = some (.int .i64 s.gap) := by rw [(row_cell HP.out.bx 0).1]; rfl
      have x1 : wr.cell? ⟨Rx, 1, none⟩ = some (.int .i64 s.words) := by rw [(row_cell HP.out.bx 1).1]; rfl
      have x2 : wr.cell? ⟨Rx, 2, none⟩ = some (.int .i64 s.room) := by rw [(row_cell HP.out.bx 2).1]; rfl
      have x3 : wr.cell? ⟨Rx, 3, none⟩ = some (.slice A n c) := by rw [(row_cell HP.out.bx 3).1]; rfl
      have x4 : wr.cell? ⟨Rx, 4, none⟩ = some (.int .i64 s.next) := by rw [(row_cell HP.out.bx 4).1]; rfl
      have x5 : wr.cell? ⟨Rx, 5, none⟩ = some (.int .i64 s.rl) := by rw [(row_cell HP.out.bx 5).1]; rfl
      go_wp2_with fail
      refine wp_region_held_drew (S := (fun w' => w'.cell? ⟨b, off + i * 3, none⟩ = some (.int .i64 kd) ∧ w'.cell? ⟨b, off + i * 3 + 1, none⟩ = some (.int .i64 now) ∧ w'.cell? ⟨b, off + i * 3 + 2, none⟩ = some (.slice Am m cm))) (by kernel_rfl) ?_ (fun hHeld => ?_)
      · exact ⟨y0, y1, y2⟩
      refine takeD (i := 0) (d := some 81) (v := ?_) _ rfl rfl (by kernel_rfl) (by kernel_rfl) (by kernel_rfl) (fun _ _ _ h => h) (by rfl) ?_ (by assumption) ?_
      rotate_left
      · (intro w hSw; (try dsimp only at hSw); go_simp) <;> with_reducible rfl
      try simp only [Act.put, List.setIfInBounds_toArray, List.set_cons_zero, List.set_cons_succ]
      refine takeD (i := 2) (d := some 83) (v := ?_) _ rfl rfl (by kernel_rfl) (by kernel_rfl) (by kernel_rfl) (fun _ _ _ h => h) (by rfl) ?_ (by assumption) ?_
      rotate_left
      · (intro w hSw; (try dsimp only at hSw); go_simp) <;> with_reducible rfl
      try simp only [Act.put, List.setIfInBounds_toArray, List.set_cons_zero, List.set_cons_succ]
      refine takeD (i := 3) (d := some 84) (v := ?_) _ rfl rfl (by kernel_rfl) (by kernel_rfl) (by kernel_rfl) (fun _ _ _ h => h) (by rfl) ?_ (by assumption) ?_
      rotate_left
      · (intro w hSw; (try dsimp only at hSw); go_simp) <;> with_reducible rfl
      try simp only [Act.put, List.setIfInBounds_toArray, List.set_cons_zero, List.set_cons_succ]
      refine takeD (i := 4) (d := some 85) (v := ?_) _ rfl rfl (by kernel_rfl) (by kernel_rfl) (by kernel_rfl) (fun _ _ _ h => h) (by rfl) ?_ (by assumption) ?_
      rotate_left
      · (intro w hSw; (try dsimp only at hSw); go_simp) <;> with_reducible rfl
      try simp only [Act.put, List.setIfInBounds_toArray, List.set_cons_zero, List.set_cons_succ]
      refine takeD (i := 5) (d := some 86) (v := ?_) _ rfl rfl (by kernel_rfl) (by kernel_rfl) (by kernel_rfl) (fun _ _ _ h => h) (by rfl) ?_ (by assumption) ?_
      rotate_left
      · (intro w hSw; (try dsimp only at hSw); go_simp) <;> with_reducible rfl
      try simp only [Act.put, List.setIfInBounds_toArray, List.set_cons_zero, List.set_cons_succ]
      obtain ⟨V, hV⟩ : ∃ V, wr.drew = V := ⟨_, rfl⟩
      have bV : Below wr.heap.size wr V := by rw [← hV]; exact (Below.refl _ _).drew
      have HP_V := Lib.hid (HP.out.below bV)
      have HF_V := Lib.hid (HF.out.below bV)
      have HO_V := Lib.hid (HO.out.low (bV.mono HLW.out))
      simp only [hV]
      rw [hV] at hHeld
      clear hV bV y0 y1 y2 x0 x1 x2 x3 x4 x5
      have x0 : V.cell? ⟨Rx, 0, none⟩ = some (.int .i64 s.gap) := by rw [(row_cell HP_V.out.bx 0).1]; rfl
      have x1 : V.cell? ⟨Rx, 1, none⟩ = some (.int .i64 s.words) := by rw [(row_cell HP_V.out.bx 1).1]; rfl
      have x2 : V.cell? ⟨Rx, 2, none⟩ = some (.int .i64 s.room) := by rw [(row_cell HP_V.out.bx 2).1]; rfl
      have x3 : V.cell? ⟨Rx, 3, none⟩ = some (.slice A n c) := by rw [(row_cell HP_V.out.bx 3).1]; rfl
      have x4 : V.cell? ⟨Rx, 4, none⟩ = some (.int .i64 s.next) := by rw [(row_cell HP_V.out.bx 4).1]; rfl
      have x5 : V.cell? ⟨Rx, 5, none⟩ = some (.int .i64 s.rl) := by rw [(row_cell HP_V.out.bx 5).1]; rfl
      refine wpAnyH_ready (rs := [1]) (by kernel_rfl) (by simp) ?_
      refine AllReadyH.cons rfl (fun K0 hK => ?_) (AllReadyH.nil)
      try go_simp
      refine hK.out _ _ hHeld (fun hHeld => ?_)
      clear x0 x1 x2 x3 x4 x5
      clear hK K0
      try simp only [Act.put, List.getElem_toArray, List.getElem_cons_succ, List.getElem_cons_zero, List.setIfInBounds_toArray, List.set_cons_zero, List.set_cons_succ]
      refine wpAnyH_ready (rs := [6]) (by kernel_rfl) (by simp) ?_
      refine AllReadyH.cons rfl (fun K0 hK => ?_) (AllReadyH.nil)
      try go_simp
      go_at_call 12
      refine (send_any lc p (fun b => ¬ p b ∧ ¬ (fun b => b = Rx) b) (fun b => b < lo) lc s LL A n c S kd now Am m cm M V HP_V.out.sv HF_V.out.rl (fun b hb => hb.1) HF_V.out.rm HF_V.out.cp HO_V.out.mq HO_V.out.mc HO_V.out.mn).mono ?_
      rintro e w5 ⟨q, s', LL', A', n', c', S', rfl, q5, n5, sq5, ms5, hc5⟩
      have HP5 : Hid (PL lc lc Rx w7 w5 q lc s' LL' s A n c) := HP_V.out.op q5 n5
      have HF5 : Hid (RF (fun b => b = Rx) w5 q A' n' c' S' LL') := RF.of_send (fun b hb => by rw [hb]; exact HP_V.out.blt) sq5 ms5 hc5
      have HO5 := Lib.hid (HO_V.out.low ((HP_V.out.sv.nx n5).mono HLO2.out))
      clear q5 n5 sq5 ms5 hc5 HP_V HF_V HO_V
      try go_wp2_with fail
      have hh : w5.cell? ⟨b, off + i * 3, none⟩ = some (.int .i64 kd) ∧ w5.cell? ⟨b, off + i * 3 + 1, none⟩ = some (.int .i64 now) ∧ w5.cell? ⟨b, off + i * 3 + 2, none⟩ = some (.slice Am m cm) := ⟨HO5.out.c0, HO5.out.c1, HO5.out.c2⟩
      refine hK.out _ _ hh (fun hHeld => ?_)
      clear hK K0
      try simp only [Act.put, List.getElem_toArray, List.getElem_cons_succ, List.getElem_cons_zero, List.setIfInBounds_toArray, List.set_cons_zero, List.set_cons_succ]
      refine takeD (i := 7) (d := some 80) (v := ?_) _ rfl rfl (by kernel_rfl) (by kernel_rfl) (by kernel_rfl) (fun _ _ _ h => h) (by rfl) ?_ hh ?_
      rotate_left
      · (intro w hSw; (try dsimp only at hSw); go_simp) <;> with_reducible rfl
      try simp only [Act.put, List.setIfInBounds_toArray, List.set_cons_zero, List.set_cons_succ]
      refine takeD (i := 8) (d := some 88) (v := ?_) _ rfl rfl (by kernel_rfl) (by kernel_rfl) (by kernel_rfl) (fun _ _ _ h => h) (by rfl) ?_ hh ?_
      rotate_left
      · (intro w hSw; (try dsimp only at hSw); go_simp) <;> with_reducible rfl
      try simp only [Act.put, List.setIfInBounds_toArray, List.set_cons_zero, List.set_cons_succ]
      refine takeD (i := 9) (d := some 89) (v := ?_) _ rfl rfl (by kernel_rfl) (by kernel_rfl) (by kernel_rfl) (fun _ _ _ h => h) (by rfl) ?_ hh ?_
      rotate_left
      · (intro w hSw; (try dsimp only at hSw); go_simp) <;> with_reducible rfl
      try simp only [Act.put, List.setIfInBounds_toArray, List.set_cons_zero, List.set_cons_succ]
      obtain ⟨Z, hZ⟩ : ∃ Z, ((((((w5.setCell ⟨Rx, 0, none⟩ (.int .i64 s'.gap)).setCell ⟨Rx, 1, none⟩ (.int .i64 s'.words)).setCell ⟨Rx, 2, none⟩ (.int .i64 s'.room)).setCell ⟨Rx, 3, none⟩ (.slice A' n' c')).setCell ⟨Rx, 4, none⟩ (.int .i64 s'.next)).setCell ⟨Rx, 5, none⟩ (.int .i64 s'.rl)) = Z := ⟨_, rfl⟩
      have hfz : Fo (fun b => b = Rx) w5 Z := by rw [← hZ]; exact (((((((Fo.refl (fun b => b = Rx) w5).setCell (.inl rfl) 0 _).setCell (.inl rfl) 1 _).setCell (.inl rfl) 2 _).setCell (.inl rfl) 3 _).setCell (.inl rfl) 4 _).setCell (.inl rfl) 5 _)
      have HPZ : Hid (PL lc lc Rx w7 Z q lc s' LL' s' A' n' c') := HP5.out.box hfz (by rw [← hZ]; simpa using (set_at (set_at (set_at (set_at (set_at (set_at HP5.out.bx 0 (.int .i64 s'.gap)) 1 (.int .i64 s'.words)) 2 (.int .i64 s'.room)) 3 (.slice A' n' c')) 4 (.int .i64 s'.next)) 5 (.int .i64 s'.rl)))
      have HFZ : Hid (RF (fun b => b = Rx) Z q A' n' c' S' LL') := HF5.out.far hfz (fun b hb => hb) HP5.out.ty
      have HOZ := Lib.hid (HO5.out.low (hfz.below (fun b hb => by rw [hb]; exact Nat.le_trans HLO2.out HP5.out.ll.1) (Nat.le_trans HLO2.out HP5.out.nil)))
      have x0 : w5.cell? ⟨Rx, 0, none⟩ = some (.int .i64 s.gap) := by rw [(row_cell HP5.out.bx 0).1]; rfl
      have x1 : w5.cell? ⟨Rx, 1, none⟩ = some (.int .i64 s.words) := by rw [(row_cell HP5.out.bx 1).1]; rfl
      have x2 : w5.cell? ⟨Rx, 2, none⟩ = some (.int .i64 s.room) := by rw [(row_cell HP5.out.bx 2).1]; rfl
      have x3 : w5.cell? ⟨Rx, 3, none⟩ = some (.slice A n c) := by rw [(row_cell HP5.out.bx 3).1]; rfl
      have x4 : w5.cell? ⟨Rx, 4, none⟩ = some (.int .i64 s.next) := by rw [(row_cell HP5.out.bx 4).1]; rfl
      have x5 : w5.cell? ⟨Rx, 5, none⟩ = some (.int .i64 s.rl) := by rw [(row_cell HP5.out.bx 5).1]; rfl
      have xf0 : w5.frozen? ⟨Rx, 0, none⟩ = false := (row_cell HP5.out.bx 0).2
      have xf1 : w5.frozen? ⟨Rx, 1, none⟩ = false := (row_cell HP5.out.bx 1).2
      have xf2 : w5.frozen? ⟨Rx, 2, none⟩ = false := (row_cell HP5.out.bx 2).2
      have xf3 : w5.frozen? ⟨Rx, 3, none⟩ = false := (row_cell HP5.out.bx 3).2
      have xf4 : w5.frozen? ⟨Rx, 4, none⟩ = false := (row_cell HP5.out.bx 4).2
      have xf5 : w5.frozen? ⟨Rx, 5, none⟩ = false := (row_cell HP5.out.bx 5).2
      refine wpAnyH_ready (rs := [10]) (by kernel_rfl) (by simp) ?_
      refine AllReadyH.cons rfl (fun K0 hK => ?_) (AllReadyH.nil)
      try go_simp
      try rw [hZ]
      refine hK.out _ _ ⟨HOZ.out.c0, HOZ.out.c1, HOZ.out.c2⟩ (fun hHeld => ?_)
      clear hfz hZ x0 x1 x2 x3 x4 x5 xf0 xf1 xf2 xf3 xf4 xf5 hh
      clear hK K0
      try simp only [Act.put, List.getElem_toArray, List.getElem_cons_succ, List.getElem_cons_zero, List.setIfInBounds_toArray, List.set_cons_zero, List.set_cons_succ]
      refine wpAnyH_done (by kernel_rfl) ?_ _
      clear hHeld HP5 HF5 HO5
      clear HP HF HO HBE
      have BZ : Below w7.heap.size w7 Z := by rw [HLC.out.1]; exact HPZ.out.be
      have HP0 := Lib.hid (HS.out.below BZ)
      have HF0 := Lib.hid (HSF.out.below BZ)
      obtain ⟨t, ht⟩ : ∃ t, (s0.eqB s' && decide (L0 = LL')) = t := ⟨_, rfl⟩
      have hn0 : L0.length = n0 := by have := HF0.out.rl.len; rw [HF0.out.rm.mr.len2] at this; exact this
      have hn1 : LL'.length = n' := by have := HFZ.out.rl.len; rw [HFZ.out.rm.mr.len2] at this; exact this
      have CW1 : Hid (∀ W, Below Z.heap.size Z W → Calls Try.prog 16 #[.pointer (some ⟨g, 0, none⟩)] W fun e w' => e = .returned (.int .i64 (n0 : Int)) ∧ w' = W) := fun W hb => by rw [← hn0]; exact waiting_any g p0 (fun _ => True) g s0 L0 W (HP0.out.sv.below hb)
      have CW2 : Hid (∀ W, Below Z.heap.size Z W → Calls Try.prog 16 #[.pointer (some ⟨lc, 0, none⟩)] W fun e w' => e = .returned (.int .i64 (n' : Int)) ∧ w' = W) := fun W hb => by rw [← hn1]; exact waiting_any lc q (fun _ => True) lc s' LL' W (HPZ.out.sv.below hb)
      have CE1 : Hid (∀ W, Below Z.heap.size Z W → Calls Try.prog 24 #[.pointer (some ⟨g, 0, none⟩), .pointer (some ⟨lc, 0, none⟩)] W fun e w' => e = .returned (.bool t) ∧ Below W.heap.size W w') := fun W hb => by rw [← ht]; exact same_any g lc p0 q (fun _ => True) (fun _ => True) g lc s0 s' L0 LL' W (HP0.out.sv.below hb) (HPZ.out.sv.below hb)
      have CE2 : Hid (∀ W, Below Z.heap.size Z W → Calls Try.prog 28 #[.agg #[.int .i64 s0.gap, .int .i64 s0.words, .int .i64 s0.room, .slice A0 n0 c0, .int .i64 s0.next, .int .i64 s0.rl], .agg #[.int .i64 s'.gap, .int .i64 s'.words, .int .i64 s'.room, .slice A' n' c', .int .i64 s'.next, .int .i64 s'.rl]] W fun e w' => e = .returned (.bool t) ∧ Below W.heap.size W w') := fun W hb => by rw [← ht, ← rsB_eq HP0.out.sv.ok HPZ.out.sv.ok]; exact rsame_any s0 s' _ _ _ _ A0 A' n0 n' c0 c' S0 S' L0 LL' W (HF0.out.rl.belowP hb) (HF0.out.rm.mr.below hb) (HFZ.out.rl.belowP hb) (HFZ.out.rm.mr.below hb) (by have := HP0.out.sv.few.1; omega) (fun L hL => by have := HP0.out.sv.few.2 L hL; omega)
      have tt : (t != t) = false := by simp
      clear BZ ht hn0 hn1
      have x0 : Z.cell? ⟨Rb, 0, none⟩ = some (.int .i64 s0.gap) := by rw [(row_cell HP0.out.bx 0).1]; rfl
      have x1 : Z.cell? ⟨Rb, 1, none⟩ = some (.int .i64 s0.words) := by rw [(row_cell HP0.out.bx 1).1]; rfl
      have x2 : Z.cell? ⟨Rb, 2, none⟩ = some (.int .i64 s0.room) := by rw [(row_cell HP0.out.bx 2).1]; rfl
      have x3 : Z.cell? ⟨Rb, 3, none⟩ = some (.slice A0 n0 c0) := by rw [(row_cell HP0.out.bx 3).1]; rfl
      have x4 : Z.cell? ⟨Rb, 4, none⟩ = some (.int .i64 s0.next) := by rw [(row_cell HP0.out.bx 4).1]; rfl
      have x5 : Z.cell? ⟨Rb, 5, none⟩ = some (.int .i64 s0.rl) := by rw [(row_cell HP0.out.bx 5).1]; rfl
      have z0 : Z.cell? ⟨Rx, 0, none⟩ = some (.int .i64 s'.gap) := by rw [(row_cell HPZ.out.bx 0).1]; rfl
      have z1 : Z.cell? ⟨Rx, 1, none⟩ = some (.int .i64 s'.words) := by rw [(row_cell HPZ.out.bx 1).1]; rfl
      have z2 : Z.cell? ⟨Rx, 2, none⟩ = some (.int .i64 s'.room) := by rw [(row_cell HPZ.out.bx 2).1]; rfl
      have z3 : Z.cell? ⟨Rx, 3, none⟩ = some (.slice A' n' c') := by rw [(row_cell HPZ.out.bx 3).1]; rfl
      have z4 : Z.cell? ⟨Rx, 4, none⟩ = some (.int .i64 s'.next) := by rw [(row_cell HPZ.out.bx 4).1]; rfl
      have z5 : Z.cell? ⟨Rx, 5, none⟩ = some (.int .i64 s'.rl) := by rw [(row_cell HPZ.out.bx 5).1]; rfl
      go_upto_region 16 with fail
      refine wp_region_held_drew (S := (fun w' => Below Z.heap.size Z w' ∧ w'.cell? ⟨Rb, 0, none⟩ = some (.int .i64 s0.gap) ∧ w'.cell? ⟨Rb, 1, none⟩ = some (.int .i64 s0.words) ∧ w'.cell? ⟨Rb, 2, none⟩ = some (.int .i64 s0.room) ∧ w'.cell? ⟨Rb, 3, none⟩ = some (.slice A0 n0 c0) ∧ w'.cell? ⟨Rb, 4, none⟩ = some (.int .i64 s0.next) ∧ w'.cell? ⟨Rb, 5, none⟩ = some (.int .i64 s0.rl) ∧ w'.cell? ⟨Rx, 0, none⟩ = some (.int .i64 s'.gap) ∧ w'.cell? ⟨Rx, 1, none⟩ = some (.int .i64 s'.words) ∧ w'.cell? ⟨Rx, 2, none⟩ = some (.int .i64 s'.room) ∧ w'.cell? ⟨Rx, 3, none⟩ = some (.slice A' n' c') ∧ w'.cell? ⟨Rx, 4, none⟩ = some (.int .i64 s'.next) ∧ w'.cell? ⟨Rx, 5, none⟩ = some (.int .i64 s'.rl))) (by kernel_rfl) ?_ (fun hHeld => ?_)
      · exact ⟨(Below.refl _ _).drew, x0, x1, x2, x3, x4, x5, z0, z1, z2, z3, z4, z5⟩
      refine takeD (i := 0) (d := some 90) (v := ?_) _ rfl rfl (by kernel_rfl) (by kernel_rfl) (by kernel_rfl) (fun _ _ _ h => h) (by rfl) ?_ (by assumption) ?_
      rotate_left
      · (intro w hSw; (try dsimp only at hSw); go_simp) <;> with_reducible rfl
      try simp only [Act.put, List.setIfInBounds_toArray, List.set_cons_zero, List.set_cons_succ]
      refine takeD (i := 2) (d := some 92) (v := ?_) _ rfl rfl (by kernel_rfl) (by kernel_rfl) (by kernel_rfl) (fun _ _ _ h => h) (by rfl) ?_ (by assumption) ?_
      rotate_left
      · (intro w hSw; (try dsimp only at hSw); go_simp) <;> with_reducible rfl
      try simp only [Act.put, List.setIfInBounds_toArray, List.set_cons_zero, List.set_cons_succ]
      refine takeD (i := 3) (d := some 93) (v := ?_) _ rfl rfl (by kernel_rfl) (by kernel_rfl) (by kernel_rfl) (fun _ _ _ h => h) (by rfl) ?_ (by assumption) ?_
      rotate_left
      · (intro w hSw; (try dsimp only at hSw); go_simp) <;> with_reducible rfl
      try simp only [Act.put, List.setIfInBounds_toArray, List.set_cons_zero, List.set_cons_succ]
      refine takeD (i := 4) (d := some 94) (v := ?_) _ rfl rfl (by kernel_rfl) (by kernel_rfl) (by kernel_rfl) (fun _ _ _ h => h) (by rfl) ?_ (by assumption) ?_
      rotate_left
      · (intro w hSw; (try dsimp only at hSw); go_simp) <;> with_reducible rfl
      try simp only [Act.put, List.setIfInBounds_toArray, List.set_cons_zero, List.set_cons_succ]
      refine wpAnyH_ready (rs := [1]) (by kernel_rfl) (by simp) ?_
      refine AllReadyH.cons rfl (fun K hK => ?_) AllReadyH.nil
      try go_simp
      go_at_call 16
      refine (CW1.out _ hHeld.1).mono ?_
      rintro e w2 ⟨rfl, hw⟩
      have hw := hw.symm
      subst hw
      try go_wp2_with fail
      refine hK.out _ _ ?_ (fun hHeld => ?_)
      · exact hHeld
      clear hK K
      try simp only [Act.put, List.setIfInBounds_toArray, List.set_cons_zero, List.set_cons_succ]
      refine takeD (i := 5) (d := some 95) (v := ?_) _ rfl rfl (by kernel_rfl) (by kernel_rfl) (by kernel_rfl) (fun _ _ _ h => h) (by rfl) ?_ (by assumption) ?_
      rotate_left
      · (intro w hSw; (try dsimp only at hSw); go_simp) <;> with_reducible rfl
      try simp only [Act.put, List.setIfInBounds_toArray, List.set_cons_zero, List.set_cons_succ]
      refine takeD (i := 6) (d := some 96) (v := ?_) _ rfl rfl (by kernel_rfl) (by kernel_rfl) (by kernel_rfl) (fun _ _ _ h => h) (by rfl) ?_ (by assumption) ?_
      rotate_left
      · (intro w hSw; (try dsimp only at hSw); go_simp) <;> with_reducible rfl
      try simp only [Act.put, List.setIfInBounds_toArray, List.set_cons_zero, List.set_cons_succ]
      refine takeD (i := 7) (d := some 97) (v := ?_) _ rfl rfl (by kernel_rfl) (by kernel_rfl) (by kernel_rfl) (fun _ _ _ h => h) (by rfl) ?_ (by assumption) ?_
      rotate_left
      · (intro w hSw; (try dsimp only at hSw); go_simp) <;> with_reducible rfl
      try simp only [Act.put, List.setIfInBounds_toArray, List.set_cons_zero, List.set_cons_succ]
      refine takeD (i := 9) (d := some 99) (v := ?_) _ rfl rfl (by kernel_rfl) (by kernel_rfl) (by kernel_rfl) (fun _ _ _ h => h) (by rfl) ?_ (by assumption) ?_
      rotate_left
      · (intro w hSw; (try dsimp only at hSw); go_simp) <;> with_reducible rfl
      try simp only [Act.put, List.setIfInBounds_toArray, List.set_cons_zero, List.set_cons_succ]
      refine takeD (i := 10) (d := some 100) (v := ?_) _ rfl rfl (by kernel_rfl) (by kernel_rfl) (by kernel_rfl) (fun _ _ _ h => h) (by rfl) ?_ (by assumption) ?_
      rotate_left
      · (intro w hSw; (try dsimp only at hSw); go_simp) <;> with_reducible rfl
      try simp only [Act.put, List.setIfInBounds_toArray, List.set_cons_zero, List.set_cons_succ]
      refine takeD (i := 11) (d := some 101) (v := ?_) _ rfl rfl (by kernel_rfl) (by kernel_rfl) (by kernel_rfl) (fun _ _ _ h => h) (by rfl) ?_ (by assumption) ?_
      rotate_left
      · (intro w hSw; (try dsimp only at hSw); go_simp) <;> with_reducible rfl
      try simp only [Act.put, List.setIfInBounds_toArray, List.set_cons_zero, List.set_cons_succ]
      refine wpAnyH_ready (rs := [8]) (by kernel_rfl) (by simp) ?_
      refine AllReadyH.cons rfl (fun K hK => ?_) AllReadyH.nil
      try go_simp
      go_at_call 16
      refine (CW2.out _ hHeld.1).mono ?_
      rintro e w2 ⟨rfl, hw⟩
      have hw := hw.symm
      subst hw
      try go_wp2_with fail
      refine hK.out _ _ ?_ (fun hHeld => ?_)
      · exact hHeld
      clear hK K
      try simp only [Act.put, List.setIfInBounds_toArray, List.set_cons_zero, List.set_cons_succ]
      refine takeD (i := 12) (d := some 102) (v := ?_) _ rfl rfl (by kernel_rfl) (by kernel_rfl) (by kernel_rfl) (fun _ _ _ h => h) (by rfl) ?_ (by assumption) ?_
      rotate_left
      · (intro w hSw; (try dsimp only at hSw); go_simp) <;> with_reducible rfl
      try simp only [Act.put, List.setIfInBounds_toArray, List.set_cons_zero, List.set_cons_succ]
      refine takeD (i := 13) (d := some 103) (v := ?_) _ rfl rfl (by kernel_rfl) (by kernel_rfl) (by kernel_rfl) (fun _ _ _ h => h) (by rfl) ?_ (by assumption) ?_
      rotate_left
      · (intro w hSw; (try dsimp only at hSw); go_simp) <;> with_reducible rfl
      try simp only [Act.put, List.setIfInBounds_toArray, List.set_cons_zero, List.set_cons_succ]
      refine takeD (i := 14) (d := some 104) (v := ?_) _ rfl rfl (by kernel_rfl) (by kernel_rfl) (by kernel_rfl) (fun _ _ _ h => h) (by rfl) ?_ (by assumption) ?_
      rotate_left
      · (intro w hSw; (try dsimp only at hSw); go_simp) <;> with_reducible rfl
      try simp only [Act.put, List.setIfInBounds_toArray, List.set_cons_zero, List.set_cons_succ]
      refine takeD (i := 15) (d := some 105) (v := ?_) _ rfl rfl (by kernel_rfl) (by kernel_rfl) (by kernel_rfl) (fun _ _ _ h => h) (by rfl) ?_ (by assumption) ?_
      rotate_left
      · (intro w hSw; (try dsimp only at hSw); go_simp) <;> with_reducible rfl
      try simp only [Act.put, List.setIfInBounds_toArray, List.set_cons_zero, List.set_cons_succ]
      refine takeD (i := 16) (d := some 106) (v := ?_) _ rfl rfl (by kernel_rfl) (by kernel_rfl) (by kernel_rfl) (fun _ _ _ h => h) (by rfl) ?_ (by assumption) ?_
      rotate_left
      · (intro w hSw; (try dsimp only at hSw); go_simp) <;> with_reducible rfl
      try simp only [Act.put, List.setIfInBounds_toArray, List.set_cons_zero, List.set_cons_succ]
      refine takeD (i := 18) (d := some 108) (v := ?_) _ rfl rfl (by kernel_rfl) (by kernel_rfl) (by kernel_rfl) (fun _ _ _ h => h) (by rfl) ?_ (by assumption) ?_
      rotate_left
      · (intro w hSw; (try dsimp only at hSw); go_simp) <;> with_reducible rfl
      try simp only [Act.put, List.setIfInBounds_toArray, List.set_cons_zero, List.set_cons_succ]
      refine takeD (i := 19) (d := some 109) (v := ?_) _ rfl rfl (by kernel_rfl) (by kernel_rfl) (by kernel_rfl) (fun _ _ _ h => h) (by rfl) ?_ (by assumption) ?_
      rotate_left
      · (intro w hSw; (try dsimp only at hSw); go_simp) <;> with_reducible rfl
      try simp only [Act.put, List.setIfInBounds_toArray, List.set_cons_zero, List.set_cons_succ]
      refine wpAnyH_ready (rs := [17]) (by kernel_rfl) (by simp) ?_
      refine AllReadyH.cons rfl (fun K hK => ?_) AllReadyH.nil
      try go_simp
      go_at_call 24
      refine (CE1.out _ hHeld.1).mono ?_
      rintro e w2 ⟨rfl, b2⟩
      try go_wp2_with fail
      refine hK.out _ _ ?_ (fun hHeld => ?_)
      · exact ⟨hHeld.1.trans (b2.mono hHeld.1.size), cell_later b2 hHeld.2.1, cell_later b2 hHeld.2.2.1, cell_later b2 hHeld.2.2.2.1, cell_later b2 hHeld.2.2.2.2.1, cell_later b2 hHeld.2.2.2.2.2.1, cell_later b2 hHeld.2.2.2.2.2.2.1, cell_later b2 hHeld.2.2.2.2.2.2.2.1, cell_later b2 hHeld.2.2.2.2.2.2.2.2.1, cell_later b2 hHeld.2.2.2.2.2.2.2.2.2.1, cell_later b2 hHeld.2.2.2.2.2.2.2.2.2.2.1, cell_later b2 hHeld.2.2.2.2.2.2.2.2.2.2.2.1, cell_later b2 hHeld.2.2.2.2.2.2.2.2.2.2.2.2⟩
      clear hK K
      try simp only [Act.put, List.setIfInBounds_toArray, List.set_cons_zero, List.set_cons_succ]
      refine wpAnyH_ready (rs := [20]) (by kernel_rfl) (by simp) ?_
      refine AllReadyH.cons rfl (fun K hK => ?_) AllReadyH.nil
      try go_simp
      go_at_call 28
      refine (CE2.out _ hHeld.1).mono ?_
      rintro e w2 ⟨rfl, b2⟩
      try go_wp2_with fail
      refine hK.out _ _ ?_ (fun hHeld => ?_)
      · exact ⟨hHeld.1.trans (b2.mono hHeld.1.size), cell_later b2 hHeld.2.1, cell_later b2 hHeld.2.2.1, cell_later b2 hHeld.2.2.2.1, cell_later b2 hHeld.2.2.2.2.1, cell_later b2 hHeld.2.2.2.2.2.1, cell_later b2 hHeld.2.2.2.2.2.2.1, cell_later b2 hHeld.2.2.2.2.2.2.2.1, cell_later b2 hHeld.2.2.2.2.2.2.2.2.1, cell_later b2 hHeld.2.2.2.2.2.2.2.2.2.1, cell_later b2 hHeld.2.2.2.2.2.2.2.2.2.2.1, cell_later b2 hHeld.2.2.2.2.2.2.2.2.2.2.2.1, cell_later b2 hHeld.2.2.2.2.2.2.2.2.2.2.2.2⟩
      clear hK K
      try simp only [Act.put, List.setIfInBounds_toArray, List.set_cons_zero, List.set_cons_succ]
      refine takeD (i := 21) (d := some 111) (v := ?_) _ rfl rfl (by kernel_rfl) (by kernel_rfl) (by kernel_rfl) (fun _ _ _ h => h) (by rfl) ?_ (by assumption) ?_
      rotate_left
      · (intro w hSw; (try dsimp only at hSw); go_simp) <;> with_reducible rfl
      try simp only [Act.put, List.setIfInBounds_toArray, List.set_cons_zero, List.set_cons_succ]
      refine takeD (i := 22) (d := some 112) (v := ?_) _ rfl rfl (by kernel_rfl) (by kernel_rfl) (by kernel_rfl) (fun _ _ _ h => h) (by rfl) ?_ (by assumption) ?_
      rotate_left
      · (intro w hSw; (try dsimp only at hSw); go_simp) <;> with_reducible rfl
      try simp only [Act.put, List.setIfInBounds_toArray, List.set_cons_zero, List.set_cons_succ]
      refine wpAnyH_done (by kernel_rfl) ?_ _
      have HPW := Lib.hid (HPZ.out.below hHeld.1)
      have HFW := Lib.hid (HFZ.out.below hHeld.1)
      clear hHeld HPZ HFZ HP0 HF0 HOZ CW1 CW2 CE1 CE2 x0 x1 x2 x3 x4 x5 z0 z1 z2 z3 z4 z5
      go_wp2_with fail
      go_roundw
      case rel =>
        have Q : C2R lc lc Rx len2 w7 (.int .i64 ((i : Int) + 1)) _ := ⟨⟨i + 1, q, s', LL', A', n', c', S', by have := HX.out; omega, by have := HX.out; omega, by go_num, HPW.out, HFW.out⟩⟩
        first | exact Q | ((repeat apply Exists.intro); exact ⟨Q, rfl⟩)
      case measure => have := HX.out; simp [intOf]; omega
end Go.Proofs.Ytkbjonblflhkoaa.Ln
