/-
  SamplingClones's walk. Each statement bears its own conditions.
-/
import Derived.Test.YtmodkfboolmckaaSaU
namespace Go.Proofs.Ytmodkfboolmckaa.Sa
open Go.RowKit Go.Proofs.Ytmodkfboolmckaa.F Go.Proofs.Ytmodkfboolmckaa.U
set_option linter.unusedVariables false
set_option linter.unusedSimpArgs false
structure AR (lo bw g len : Nat) (n k : Int) (w : World) (iv : Value) (wr : World) : Prop where
  ex : ∃ (j : Nat) (p : Nat → Prop) (has : Bool) (M : List Int) (st : Int) (Am : Option Addr) (cm : Nat), j ≤ len ∧ iv = .int .i64 (j : Int) ∧ PS lo bw wr p g n k has M st Am cm ∧ Below lo w wr
structure LE (lo bw g : Nat) (n k : Int) (w : World) (wr : World) : Prop where
  ex : ∃ (p : Nat → Prop) (has : Bool) (M : List Int) (st : Int) (Am : Option Addr) (cm : Nat), PS lo bw wr p g n k has M st Am cm ∧ Below lo w wr
theorem heap_of_cell {w : World} {g o : Nat} {v : Value} (h : w.cell? ⟨g, o, none⟩ = some v) : ∃ C t fr, w.heap[g]? = some (.cells C t fr) := by
  unfold World.cell? at h
  cases e : w.heap[g]? with
  | none => simp [e] at h
  | some ob =>
    cases ob with
    | cells C t fr => exact ⟨C, t, fr, rfl⟩
    | _ => simp [e] at h
theorem run_sameAddr_far {P : Program} {w : World} {g1 g2 o1 o2 : Nat} {v1 v2 : Value} (hbl : g1 ≠ g2) (c1 : w.cell? ⟨g1, o1, none⟩ = some v1) (c2 : w.cell? ⟨g2, o2, none⟩ = some v2) (f1 : ∀ o, w.frozen? ⟨g1, o, none⟩ = false) (f2 : ∀ o, w.frozen? ⟨g2, o, none⟩ = false) :
    (sameAddr ⟨g1, 0, none⟩ ⟨g2, 0, none⟩).run P w = .ok false w := by
  obtain ⟨C1, t1, r1, h1⟩ := heap_of_cell c1
  obtain ⟨C2, t2, r2, h2⟩ := heap_of_cell c2
  simp [sameAddr, hbl, noView, viewAt, World.shape?, mayBeOne, stringish, h1, h2, f1, f2]
theorem sa_info : (Try.prog.info? 67).map (fun i => decide (i.size = 0)) = some false := by kernel_rfl
theorem run_ptr_far {w : World} {g1 g2 o1 o2 : Nat} {v1 v2 : Value} (hbl : g1 ≠ g2) (c1 : w.cell? ⟨g1, o1, none⟩ = some v1) (c2 : w.cell? ⟨g2, o2, none⟩ = some v2) (f1 : ∀ o, w.frozen? ⟨g1, o, none⟩ = false) (f2 : ∀ o, w.frozen? ⟨g2, o, none⟩ = false) :
    (binOp .eql 23 (.pointer (some ⟨g1, 0, none⟩)) (.pointer (some ⟨g2, 0, none⟩))).run Try.prog w = .ok (.bool false) w := by
  have hp : Try.prog.underlying 23 = some (.pointer 67) := Try.underlying23
  have h0 := sa_info
  cases hte : Try.prog.info? 67 with
  | none => rw [hte] at h0; simp at h0
  | some j =>
    rw [hte] at h0
    simp only [Option.map_some, Option.some.injEq, decide_eq_false_iff_not] at h0
    have hsz : j.size ≠ 0 := h0
    have h : ∀ d : Nat, (Op.equalIn (d + 1) 23 (.pointer (some ⟨g1, 0, none⟩)) (.pointer (some ⟨g2, 0, none⟩))).run Try.prog w = .ok false w := fun d => by
      simp [Op.equalIn, run_underlying hp, sizeOf, typeInfo, hte, hsz, run_sameAddr_far hbl c1 c2 f1 f2]
    simp only [binOp]
    simp [Op.equal, Op.maxDepth, h 9999]
structure CR (B bx gc len : Nat) (n k : Int) (w : World) (iv : Value) (wr : World) : Prop where
  ex : ∃ (j : Nat) (p : Nat → Prop) (has : Bool) (M : List Int) (st : Int) (Am : Option Addr) (cm : Nat), j ≤ len ∧ iv = .int .i64 (j : Int) ∧ PS B bx wr p gc n k has M st Am cm ∧ Below B w wr
set_option maxRecDepth 100000 in
set_option maxHeartbeats 32000000 in
theorem clones_walk (a00 a01 : Int) (a : Option Addr) (len cap : Nat) (m1 : List AC) (a2 : Option Addr) (len2 cap2 : Nat) (m2 : List AC) (w : World) (h0 : Row w 3 (RA w) (.slice a len cap) m1) (h2 : Row w 3 (RA w) (.slice a2 len2 cap2) m2) : Calls Try.prog 6 #[.agg #[.int .i64 a00, .int .i64 a01], .slice a len cap, .slice a2 len2 cap2] w fun e w' => e = .returned (.bool true) ∧ Below w.heap.size w w' := by
  have HR := Lib.hid h0
  have HR2 := Lib.hid h2
  have he := he_sa
  obtain ⟨lo, hlo⟩ : ∃ lo, w.heap.size = lo := ⟨_, rfl⟩
  have HLO : Hid (lo ≤ w.heap.size ∧ w.heap.size ≤ lo) := by unfold Hid; omega
  rw [hlo]
  clear h0 h2
  go_enter Try.func6, Try.ntmps6
  go_wp2_with fail
  have hx0 : Below w.heap.size w (w.alloc (.cells #[.int .i64 a00, .int .i64 a01] 52)) := (Below.refl _ _).alloc (Nat.le_refl _) _
  rw [hlo] at hx0
  refine (begin_any a00 a01 _).mono ?_
  rintro e w1 ⟨n, k, g, hn, hk, rfl, q0, b0⟩
  have q1 := q0.less (lo' := lo) (by have := HLO.out; simp; omega)
  have b1 : Below lo w w1 := hx0.trans (b0.mono (by have := HLO.out; simp; omega))
  clear hn hk q0 b0 hx0
  obtain ⟨bw, hbw⟩ : ∃ bw, w1.heap.size = bw := ⟨_, rfl⟩
  have hx : Below w1.heap.size w1 (w1.alloc (.cells #[.int .i64 n, .int .i64 k, .bool false, .slice none 0 0, .int .i64 0] 26)) := (Below.refl _ _).alloc (Nat.le_refl _) _
  have P2 : Hid (PS lo bw (w1.alloc (.cells #[.int .i64 n, .int .i64 k, .bool false, .slice none 0 0, .int .i64 0] 26)) (fun b => b = g) g n k false [] 0 none 0) :=
    ⟨q1.below hx, by rw [← hbw]; exact heap_alloc_new w1 _, Sq.nil _ _, fun e => by have := q1.lt; have e : bw = g := e; omega, by have := q1.nil; omega⟩
  have B2 : Hid (Below lo w (w1.alloc (.cells #[.int .i64 n, .int .i64 k, .bool false, .slice none 0 0, .int .i64 0] 26))) := b1.trans (hx.mono q1.nil)
  clear q1 b1 hx
  go_wp2_with fail
  try simp only [hbw]
  refine (told_any _).mono ?_
  rintro e w3 ⟨rfl, b3⟩
  have P3 := Lib.hid (P2.out.below b3)
  have B3 : Hid (Below lo w w3) := B2.out.trans (b3.mono P2.out.pv.nil)
  clear b3 P2 B2 hbw
  go_upto_block 0 with fail
  go_cut [9] (fun iv wx => LE lo bw g n k w wx)
  case first =>
    go_wp2_with fail
    go_loopw [9] (fun iv wr => AR lo bw g len n k w iv wr) (fun i _ => len - (intOf i).toNat)
    case atStart => exact ⟨⟨0, _, false, [], 0, none, 0, Nat.zero_le _, rfl, P3.out, B3.out⟩⟩
    case round =>
      obtain ⟨⟨j, p, has, M, st, Am, cm, hj, rfl, hps, hb⟩⟩ := hrel
      have HB := Lib.hid hb
      have HP := Lib.hid hps
      clear hb hps
      by_cases hlt : j < len
      rotate_left
      · have hjI : ¬ (j : Int) < (len : Int) := by omega
        have hjb : decide ((j : Int) < (len : Int)) = false := by simpa using hjI
        have HX : Hid (¬ j < len) := hlt
        clear hlt hj
        go_wp2_with fail
        go_meet
        case rel => exact ⟨⟨p, has, M, st, Am, cm, HP.out, HB.out⟩⟩
      by_cases hcap : j < 50
      rotate_left
      · have hjI : (j : Int) < (len : Int) := by omega
        have hjb : decide ((j : Int) < (len : Int)) = true := by simpa using hjI
        have hcI : ¬ (j : Int) < 50 := by omega
        have hcb : decide ((j : Int) < 50) = false := by simpa using hcI
        have HX : Hid (¬ j < 50) := hcap
        clear hlt hj hcap
        go_wp2_with fail
        go_meet
        case rel => exact ⟨⟨p, has, M, st, Am, cm, HP.out, HB.out⟩⟩
      have hjI : (j : Int) < (len : Int) := by omega
      have hjb : decide ((j : Int) < (len : Int)) = true := by simpa using hjI
      have hcI : (j : Int) < 50 := by omega
      have hcb : decide ((j : Int) < 50) = true := by simpa using hcI
      have HX : Hid (j < len) := hlt
      obtain ⟨hlen, b, off, x, cs, hax, hbl, _, hRA, _, hc⟩ := HR.out.at_ j hlt
      clear hlen
      subst hax
      obtain ⟨v', rfl, hK⟩ := hRA
      have HBL : Hid (b < lo) := by have := HLO.out; unfold Hid; omega
      have e0 : wr.cell? ⟨b, off + j * 3, none⟩ = some (.int .i64 x.kd) := cell_low HB.out HBL.out (hc 0 _ rfl)
      have e1 : wr.cell? ⟨b, off + j * 3 + 1, none⟩ = some (.int .i64 x.now) := cell_low HB.out HBL.out (hc 1 _ rfl)
      have e2 : wr.cell? ⟨b, off + j * 3 + 2, none⟩ = some v' := cell_low HB.out HBL.out (hc 2 _ rfl)
      obtain ⟨Ak, ck, rfl⟩ := hK.form
      have hK2 := hK.sq.2
      obtain ⟨nk, hnk⟩ : ∃ nk, x.m.length = nk := ⟨_, rfl⟩
      rw [hnk] at e2 hK2
      have HKC : Hid (nk ≤ ck ∧ (Ak = none → ck = 0)) := hK2.2
      have HKS : Hid (Sq wr (fun b => ¬ p b) (.slice Ak nk ck) nk (CU x.m)) := (sq_low (hK2.1.imp fun b _ hb => by have := HLO.out; omega) HB.out).imp fun b _ hb hp => by have := (HP.out.pv.low b hp).1; omega
      have HPL : Hid (∀ b, wr.heap.size ≤ b → ¬ p b) := fun b hb hp => by have := (HP.out.pv.low b hp).2; omega
      clear hc hbl hlt hj hK hK2 hnk hcap
      have y0 : wr.cell? ⟨bw, 0, none⟩ = some (.int .i64 n) := by rw [(row_cell HP.out.bx 0).1]; rfl
      have y1 : wr.cell? ⟨bw, 1, none⟩ = some (.int .i64 k) := by rw [(row_cell HP.out.bx 1).1]; rfl
      have y2 : wr.cell? ⟨bw, 2, none⟩ = some (.bool has) := by rw [(row_cell HP.out.bx 2).1]; rfl
      have y3 : wr.cell? ⟨bw, 3, none⟩ = some (.slice Am M.length cm) := by rw [(row_cell HP.out.bx 3).1]; rfl
      have y4 : wr.cell? ⟨bw, 4, none⟩ = some (.int .i64 st) := by rw [(row_cell HP.out.bx 4).1]; rfl
      go_wp2_with fail
      refine wp_region_held_drew (S := (fun w' => w'.cell? ⟨b, off + j * 3, none⟩ = some (.int .i64 x.kd) ∧ w'.cell? ⟨b, off + j * 3 + 1, none⟩ = some (.int .i64 x.now) ∧ w'.cell? ⟨b, off + j * 3 + 2, none⟩ = some (.slice Ak nk ck))) (by kernel_rfl) ?_ (fun hHeld => ?_)
      · exact ⟨e0, e1, e2⟩
      clear e0 e1 e2
      refine takeD (i := 0) (d := some 38) (v := ?_) _ rfl rfl (by kernel_rfl) (by kernel_rfl) (by kernel_rfl) (fun _ _ _ h => h) (by rfl) ?_ (by assumption) ?_
      rotate_left
      · (intro w hSw; (try dsimp only at hSw); go_simp) <;> with_reducible rfl
      try simp only [Act.put, List.setIfInBounds_toArray, List.set_cons_zero, List.set_cons_succ]
      refine takeD (i := 2) (d := some 40) (v := ?_) _ rfl rfl (by kernel_rfl) (by kernel_rfl) (by kernel_rfl) (fun _ _ _ h => h) (by rfl) ?_ (by assumption) ?_
      rotate_left
      · (intro w hSw; (try dsimp only at hSw); go_simp) <;> with_reducible rfl
      try simp only [Act.put, List.setIfInBounds_toArray, List.set_cons_zero, List.set_cons_succ]
      refine takeD (i := 3) (d := some 41) (v := ?_) _ rfl rfl (by kernel_rfl) (by kernel_rfl) (by kernel_rfl) (fun _ _ _ h => h) (by rfl) ?_ (by assumption) ?_
      rotate_left
      · (intro w hSw; (try dsimp only at hSw); go_simp) <;> with_reducible rfl
      try simp only [Act.put, List.setIfInBounds_toArray, List.set_cons_zero, List.set_cons_succ]
      refine takeD (i := 4) (d := some 42) (v := ?_) _ rfl rfl (by kernel_rfl) (by kernel_rfl) (by kernel_rfl) (fun _ _ _ h => h) (by rfl) ?_ (by assumption) ?_
      rotate_left
      · (intro w hSw; (try dsimp only at hSw); go_simp) <;> with_reducible rfl
      try simp only [Act.put, List.setIfInBounds_toArray, List.set_cons_zero, List.set_cons_succ]
      refine takeD (i := 5) (d := some 43) (v := ?_) _ rfl rfl (by kernel_rfl) (by kernel_rfl) (by kernel_rfl) (fun _ _ _ h => h) (by rfl) ?_ (by assumption) ?_
      rotate_left
      · (intro w hSw; (try dsimp only at hSw); go_simp) <;> with_reducible rfl
      try simp only [Act.put, List.setIfInBounds_toArray, List.set_cons_zero, List.set_cons_succ]
      refine wpAnyH_ready (rs := [1]) (by kernel_rfl) (by simp) ?_
      refine AllReadyH.cons rfl (fun K0 hK => ?_) AllReadyH.nil
      have y0d : wr.drew.cell? ⟨bw, 0, none⟩ = _ := y0
      have y1d : wr.drew.cell? ⟨bw, 1, none⟩ = _ := y1
      have y2d : wr.drew.cell? ⟨bw, 2, none⟩ = _ := y2
      have y3d : wr.drew.cell? ⟨bw, 3, none⟩ = _ := y3
      have y4d : wr.drew.cell? ⟨bw, 4, none⟩ = _ := y4
      try go_simp
      refine hK.out _ _ hHeld (fun hHeld => ?_)
      clear hK K0
      try simp only [Act.put, List.getElem_toArray, List.getElem_cons_succ, List.getElem_cons_zero, List.setIfInBounds_toArray, List.set_cons_zero, List.set_cons_succ]
      clear y0d y1d y2d y3d y4d y0 y1 y2 y3 y4
      obtain ⟨V, hV⟩ : ∃ V, wr.drew = V := ⟨_, rfl⟩
      have BB_V : Hid (Below wr.heap.size wr V) := by rw [← hV]; exact (Below.refl _ _).drew
      rw [hV] at hHeld
      simp only [hV]
      clear hV
      refine wpAnyH_ready (rs := [6]) (by kernel_rfl) (by simp) ?_
      refine AllReadyH.cons rfl (fun K0 hK => ?_) AllReadyH.nil
      try go_simp
      go_at_call 11
      refine (do_any lo p g n k has M st Am M.length cm Ak nk ck x.kd x.now x.m V (HP.out.pv.below BB_V.out) (HP.out.ms.belowP BB_V.out) (HKS.out.belowP BB_V.out) HKC.out.1 HKC.out.2).mono ?_
      rintro e V2 ⟨q, has', M', st', A', c', rfl, q1, s1, n1⟩
      have Q1 := Lib.hid q1
      have SS := Lib.hid s1
      have N1 := Lib.hid n1
      have BX : Hid (V2.heap[bw]? = some (.cells #[.int .i64 n, .int .i64 k, .bool has, .slice Am M.length cm, .int .i64 st] 26 (0, 0)) ∧ ¬ q bw) := ⟨(n1.fo.block bw (by have := HP.out.blt; have := BB_V.out.size; omega) HP.out.nq.1).trans ((BB_V.out.block bw HP.out.blt).trans HP.out.bx), fun hq => by (rcases n1.sub bw hq with h | h); exact HP.out.nq.1 h; have := HP.out.blt; have := BB_V.out.size; omega⟩
      have BW : Hid (Below lo w V2) := (HB.out.trans (BB_V.out.mono HP.out.pv.nil)).trans (n1.fo.below (fun b hb => (HP.out.pv.low b hb).1) (by have := HP.out.pv.nil; have := BB_V.out.size; omega))
      try go_wp2_with fail
      refine hK.out _ _ (And.intro ((n1.fo.cell (fun hq => by have h1 : p b := hq; have := (HP.out.pv.low b h1).1; have := HBL.out; omega) hHeld.1)) (And.intro ((n1.fo.cell (fun hq => by have h1 : p b := hq; have := (HP.out.pv.low b h1).1; have := HBL.out; omega) hHeld.2.1)) ((n1.fo.cell (fun hq => by have h1 : p b := hq; have := (HP.out.pv.low b h1).1; have := HBL.out; omega) hHeld.2.2)))) (fun hHeld => ?_)
      clear q1 s1 n1
      clear hK K0
      try simp only [Act.put, List.getElem_toArray, List.getElem_cons_succ, List.getElem_cons_zero, List.setIfInBounds_toArray, List.set_cons_zero, List.set_cons_succ]
      refine takeD (i := 7) (d := some 37) (v := ?_) _ rfl rfl (by kernel_rfl) (by kernel_rfl) (by kernel_rfl) (fun _ _ _ h => h) (by rfl) ?_ (by assumption) ?_
      rotate_left
      · (intro w hSw; (try dsimp only at hSw); go_simp) <;> with_reducible rfl
      try simp only [Act.put, List.setIfInBounds_toArray, List.set_cons_zero, List.set_cons_succ]
      refine takeD (i := 8) (d := some 45) (v := ?_) _ rfl rfl (by kernel_rfl) (by kernel_rfl) (by kernel_rfl) (fun _ _ _ h => h) (by rfl) ?_ (by assumption) ?_
      rotate_left
      · (intro w hSw; (try dsimp only at hSw); go_simp) <;> with_reducible rfl
      try simp only [Act.put, List.setIfInBounds_toArray, List.set_cons_zero, List.set_cons_succ]
      refine takeD (i := 9) (d := some 46) (v := ?_) _ rfl rfl (by kernel_rfl) (by kernel_rfl) (by kernel_rfl) (fun _ _ _ h => h) (by rfl) ?_ (by assumption) ?_
      rotate_left
      · (intro w hSw; (try dsimp only at hSw); go_simp) <;> with_reducible rfl
      try simp only [Act.put, List.setIfInBounds_toArray, List.set_cons_zero, List.set_cons_succ]
      have z0 : V2.cell? ⟨bw, 0, none⟩ = some (.int .i64 n) := by rw [(row_cell BX.out.1 0).1]; rfl
      have zf0 : V2.frozen? ⟨bw, 0, none⟩ = false := (row_cell BX.out.1 0).2
      have z1 : V2.cell? ⟨bw, 1, none⟩ = some (.int .i64 k) := by rw [(row_cell BX.out.1 1).1]; rfl
      have zf1 : V2.frozen? ⟨bw, 1, none⟩ = false := (row_cell BX.out.1 1).2
      have z2 : V2.cell? ⟨bw, 2, none⟩ = some (.bool has) := by rw [(row_cell BX.out.1 2).1]; rfl
      have zf2 : V2.frozen? ⟨bw, 2, none⟩ = false := (row_cell BX.out.1 2).2
      have z3 : V2.cell? ⟨bw, 3, none⟩ = some (.slice Am M.length cm) := by rw [(row_cell BX.out.1 3).1]; rfl
      have zf3 : V2.frozen? ⟨bw, 3, none⟩ = false := (row_cell BX.out.1 3).2
      have z4 : V2.cell? ⟨bw, 4, none⟩ = some (.int .i64 st) := by rw [(row_cell BX.out.1 4).1]; rfl
      have zf4 : V2.frozen? ⟨bw, 4, none⟩ = false := (row_cell BX.out.1 4).2
      have PP := PS.put Q1.out BX.out.1 (box_no _ _ _ _ _ _ _) SS.out ⟨BX.out.2, HP.out.nq.2⟩
      have P3 := Lib.hid PP.1
      have PF := Lib.hid PP.2.2
      have B3 : Hid (Below lo w _) := BW.out.trans PP.2.1
      have hx2 := And.intro ((PF.out.cell (fun h7 => by have h8 : b = bw := h7; have := HBL.out; have := HP.out.nq.2; omega) hHeld.1)) (And.intro ((PF.out.cell (fun h7 => by have h8 : b = bw := h7; have := HBL.out; have := HP.out.nq.2; omega) hHeld.2.1)) ((PF.out.cell (fun h7 => by have h8 : b = bw := h7; have := HBL.out; have := HP.out.nq.2; omega) hHeld.2.2)))
      clear PP
      refine wpAnyH_ready (rs := [10]) (by kernel_rfl) (by simp) ?_
      refine AllReadyH.cons rfl (fun K0 hK => ?_) AllReadyH.nil
      try go_simp
      refine hK.out _ _ hx2 (fun hHeld => ?_)
      clear hK K0
      try simp only [Act.put, List.getElem_toArray, List.getElem_cons_succ, List.getElem_cons_zero, List.setIfInBounds_toArray, List.set_cons_zero, List.set_cons_succ]
      refine wpAnyH_done (by kernel_rfl) ?_ _
      clear hHeld hx2 z0 z1 z2 z3 z4 zf0 zf1 zf2 zf3 zf4
      go_wp2_with fail
      go_roundw
      case rel =>
        have Q : AR lo bw g len n k w (.int .i64 ((j : Int) + 1)) _ := ⟨⟨j + 1, q, has', M', st', A', c', HX.out, by go_num, P3.out, B3.out⟩⟩
        first | exact Q | ((repeat apply Exists.intro); exact ⟨Q, rfl⟩)
      case measure => have := HX.out; simp [intOf]; omega
  case rest =>
    obtain ⟨w3', hw3⟩ : ∃ w', w' = wc := ⟨_, rfl⟩
    subst hw3
    obtain ⟨⟨p, has, M, st, Am, cm, hps, hb⟩⟩ := hcut
    have P4 := Lib.hid hps
    have B4 := Lib.hid hb
    clear hps hb P3 B3
    go_wp2_with fail
    refine (clone_any lo p g n k has M st _ P4.out.pv).mono ?_
    rintro e w5 ⟨gc, qc, rfl, c5, b5⟩
    obtain ⟨B, hB⟩ : ∃ B, w3'.heap.size = B := ⟨_, rfl⟩
    rw [hB] at c5
    have C5 := Lib.hid c5
    have P5 := Lib.hid (P4.out.below b5)
    have HLB : Hid (lo ≤ B) := by have := P4.out.pv.nil; unfold Hid; omega
    have HPB : Hid ((∀ b, p b → b < B) ∧ bw < B ∧ g < B) := ⟨fun b hb => by have := (P4.out.pv.low b hb).2; omega, by have := P4.out.blt; omega, by have := P4.out.pv.lt; omega⟩
    have B5 : Hid (Below lo w w5) := B4.out.trans (b5.mono P4.out.pv.nil)
    have HSB : Hid (B ≤ w5.heap.size) := C5.out.nil
    have M5 : Hid (Sq w5 (fun b => b < B) (.slice Am M.length cm) M.length (CU M)) := (P4.out.ms.below b5).imp fun b _ hb => by omega
    have hpp := run_ptr_far (w := w5) (g1 := gc) (g2 := g) (o1 := 0) (o2 := 0) (by have := (c5.low gc c5.pg).1; have := HPB.out; omega) (by obtain ⟨vm, x, _⟩ := c5.ex; rw [(row_cell x 0).1]; rfl) (by obtain ⟨vm, x, _⟩ := P5.out.pv.ex; rw [(row_cell x 0).1]; rfl) (fun o => by obtain ⟨vm, x, _⟩ := c5.ex; exact (row_cell x o).2) (fun o => by obtain ⟨vm, x, _⟩ := P5.out.pv.ex; exact (row_cell x o).2)
    clear c5 b5 P4 B4 hB
    go_wp2_with fail
    refine (same_any B lo qc p gc g n n k k has has M M st st w5 C5.out P5.out.pv).mono ?_
    rintro e w6 ⟨he6, b6⟩
    simp only [and_self, decide_true, Bool.and_self] at he6
    subst he6
    have C6 := Lib.hid (C5.out.below b6)
    have P6 := Lib.hid (P5.out.below b6)
    have M6 := Lib.hid (M5.out.belowP b6)
    have B6 : Hid (Below lo w w6) := B5.out.trans (b6.mono P5.out.pv.nil)
    have HSB6 : Hid (B ≤ w6.heap.size) := C6.out.nil
    clear b6 C5 P5 M5 B5 HSB hpp
    go_wp2_with fail
    refine (same_any lo B p qc g gc n n k k has has M M st st w6 P6.out.pv C6.out).mono ?_
    rintro e w7 ⟨he7, b7⟩
    simp only [and_self, decide_true, Bool.and_self] at he7
    subst he7
    have C7 := Lib.hid (C6.out.below b7)
    have P7 := Lib.hid (P6.out.below b7)
    have M7 := Lib.hid (M6.out.belowP b7)
    have B7 : Hid (Below lo w w7) := B6.out.trans (b7.mono P6.out.pv.nil)
    have HSB7 : Hid (B ≤ w7.heap.size) := C7.out.nil
    clear b7 C6 P6 M6 B6 HSB6
    go_wp2_with fail
    refine (same_nil_r g w7).mono ?_
    rintro e wz ⟨rfl, hw⟩
    have hw := hw.symm
    subst hw
    have y0 : w7.cell? ⟨bw, 0, none⟩ = some (.int .i64 n) := by rw [(row_cell P7.out.bx 0).1]; rfl
    have y1 : w7.cell? ⟨bw, 1, none⟩ = some (.int .i64 k) := by rw [(row_cell P7.out.bx 1).1]; rfl
    have y2 : w7.cell? ⟨bw, 2, none⟩ = some (.bool has) := by rw [(row_cell P7.out.bx 2).1]; rfl
    have y3 : w7.cell? ⟨bw, 3, none⟩ = some (.slice Am M.length cm) := by rw [(row_cell P7.out.bx 3).1]; rfl
    have y4 : w7.cell? ⟨bw, 4, none⟩ = some (.int .i64 st) := by rw [(row_cell P7.out.bx 4).1]; rfl
    obtain ⟨bx, hbx⟩ : ∃ bx, w7.heap.size = bx := ⟨_, rfl⟩
    have hx : Below w7.heap.size w7 (w7.alloc (.cells #[.int .i64 n, .int .i64 k, .bool has, .slice Am M.length cm, .int .i64 st] 26)) := (Below.refl _ _).alloc (Nat.le_refl _) _
    obtain ⟨w4, hw4⟩ : ∃ w4, w7.alloc (.cells #[.int .i64 n, .int .i64 k, .bool has, .slice Am M.length cm, .int .i64 st] 26) = w4 := ⟨_, rfl⟩
    rw [hw4] at hx
    have PC : Hid (PS B bx w4 qc gc n k has M st Am cm) := by
      refine ⟨C7.out.below hx, by rw [← hw4, ← hbx]; exact heap_alloc_new w7 _, (M7.out.belowP hx).imp fun b _ hb hq => by have := (C7.out.low b hq).1; omega, fun hq => by have := (C7.out.low bx hq).2; omega, by have := HSB7.out; omega⟩
    have S4 := Lib.hid (P7.out.below hx)
    have M4 := Lib.hid (M7.out.belowP hx)
    have BA : Hid (Below lo w w4) := B7.out.trans (hx.mono P7.out.pv.nil)
    have HSB4 : Hid (B ≤ w4.heap.size) := PC.out.pv.nil
    clear hx C7 P7 M7 B7 HSB7
    go_wp2_with fail
    try simp only [hw4]
    try simp only [hbx]
    clear hw4 hbx y0 y1 y2 y3 y4
    go_loopw [12] (fun iv wr => CR B bx gc len2 n k w4 iv wr) (fun i _ => len2 - (intOf i).toNat)
    case atStart => exact ⟨⟨0, _, has, M, st, Am, cm, Nat.zero_le _, rfl, PC.out, Below.refl _ _⟩⟩
    case round =>
      obtain ⟨⟨j, pC, hasC, MC, stC, AmC, cmC, hj, rfl, hps, hb⟩⟩ := hrel
      have HB := Lib.hid hb
      have HP := Lib.hid hps
      clear hb hps
      by_cases hlt : j < len2
      rotate_left
      · have hjI : ¬ (j : Int) < (len2 : Int) := by omega
        have hjb : decide ((j : Int) < (len2 : Int)) = false := by simpa using hjI
        have HX : Hid (¬ j < len2) := hlt
        clear hlt hj
        go_wp2_with fail
        go_ret
        exact ⟨rfl, BA.out.trans (HB.out.mono HLB.out)⟩
      by_cases hcap : j < 50
      rotate_left
      · have hjI : (j : Int) < (len2 : Int) := by omega
        have hjb : decide ((j : Int) < (len2 : Int)) = true := by simpa using hjI
        have hcI : ¬ (j : Int) < 50 := by omega
        have hcb : decide ((j : Int) < 50) = false := by simpa using hcI
        have HX : Hid (¬ j < 50) := hcap
        clear hlt hj hcap
        go_wp2_with fail
        go_ret
        exact ⟨rfl, BA.out.trans (HB.out.mono HLB.out)⟩
      have hjI : (j : Int) < (len2 : Int) := by omega
      have hjb : decide ((j : Int) < (len2 : Int)) = true := by simpa using hjI
      have hcI : (j : Int) < 50 := by omega
      have hcb : decide ((j : Int) < 50) = true := by simpa using hcI
      have HX : Hid (j < len2) := hlt
      obtain ⟨hlen, b, off, x, cs, hax, hbl, _, hRA, _, hc⟩ := HR2.out.at_ j hlt
      clear hlen
      subst hax
      obtain ⟨v', rfl, hK⟩ := hRA
      have HBo : Hid (b < lo) := by have := HLO.out; unfold Hid; omega
      have HBL : Hid (b < B) := by have := HBo.out; have := HLB.out; unfold Hid; omega
      have e0 : wr.cell? ⟨b, off + j * 3, none⟩ = some (.int .i64 x.kd) := cell_low HB.out HBL.out (cell_low BA.out HBo.out (hc 0 _ rfl))
      have e1 : wr.cell? ⟨b, off + j * 3 + 1, none⟩ = some (.int .i64 x.now) := cell_low HB.out HBL.out (cell_low BA.out HBo.out (hc 1 _ rfl))
      have e2 : wr.cell? ⟨b, off + j * 3 + 2, none⟩ = some v' := cell_low HB.out HBL.out (cell_low BA.out HBo.out (hc 2 _ rfl))
      obtain ⟨Ak, ck, rfl⟩ := hK.form
      have hK2 := hK.sq.2
      obtain ⟨nk, hnk⟩ : ∃ nk, x.m.length = nk := ⟨_, rfl⟩
      rw [hnk] at e2 hK2
      have HKC : Hid (nk ≤ ck ∧ (Ak = none → ck = 0)) := hK2.2
      have HKS : Hid (Sq wr (fun b => ¬ pC b) (.slice Ak nk ck) nk (CU x.m)) := (sq_low ((sq_low (hK2.1.imp (q := fun b => b < lo) fun b _ hb => by have := HLO.out; omega) BA.out).imp (q := fun b => b < B) fun b _ hb => by have := HLB.out; omega) HB.out).imp fun b _ hb hp => by have := (HP.out.pv.low b hp).1; omega
      have HPL : Hid (∀ b, wr.heap.size ≤ b → ¬ pC b) := fun b hb hp => by have := (HP.out.pv.low b hp).2; omega
      clear hc hbl hlt hj hK hK2 hnk hcap
      have y0 : wr.cell? ⟨bx, 0, none⟩ = some (.int .i64 n) := by rw [(row_cell HP.out.bx 0).1]; rfl
      have y1 : wr.cell? ⟨bx, 1, none⟩ = some (.int .i64 k) := by rw [(row_cell HP.out.bx 1).1]; rfl
      have y2 : wr.cell? ⟨bx, 2, none⟩ = some (.bool hasC) := by rw [(row_cell HP.out.bx 2).1]; rfl
      have y3 : wr.cell? ⟨bx, 3, none⟩ = some (.slice AmC MC.length cmC) := by rw [(row_cell HP.out.bx 3).1]; rfl
      have y4 : wr.cell? ⟨bx, 4, none⟩ = some (.int .i64 stC) := by rw [(row_cell HP.out.bx 4).1]; rfl
      go_wp2_with fail
      refine wp_region_held_drew (S := (fun w' => w'.cell? ⟨b, off + j * 3, none⟩ = some (.int .i64 x.kd) ∧ w'.cell? ⟨b, off + j * 3 + 1, none⟩ = some (.int .i64 x.now) ∧ w'.cell? ⟨b, off + j * 3 + 2, none⟩ = some (.slice Ak nk ck))) (by kernel_rfl) ?_ (fun hHeld => ?_)
      · exact ⟨e0, e1, e2⟩
      clear e0 e1 e2
      refine takeD (i := 0) (d := some 84) (v := ?_) _ rfl rfl (by kernel_rfl) (by kernel_rfl) (by kernel_rfl) (fun _ _ _ h => h) (by rfl) ?_ (by assumption) ?_
      rotate_left
      · (intro w hSw; (try dsimp only at hSw); go_simp) <;> with_reducible rfl
      try simp only [Act.put, List.setIfInBounds_toArray, List.set_cons_zero, List.set_cons_succ]
      refine takeD (i := 2) (d := some 86) (v := ?_) _ rfl rfl (by kernel_rfl) (by kernel_rfl) (by kernel_rfl) (fun _ _ _ h => h) (by rfl) ?_ (by assumption) ?_
      rotate_left
      · (intro w hSw; (try dsimp only at hSw); go_simp) <;> with_reducible rfl
      try simp only [Act.put, List.setIfInBounds_toArray, List.set_cons_zero, List.set_cons_succ]
      refine takeD (i := 3) (d := some 87) (v := ?_) _ rfl rfl (by kernel_rfl) (by kernel_rfl) (by kernel_rfl) (fun _ _ _ h => h) (by rfl) ?_ (by assumption) ?_
      rotate_left
      · (intro w hSw; (try dsimp only at hSw); go_simp) <;> with_reducible rfl
      try simp only [Act.put, List.setIfInBounds_toArray, List.set_cons_zero, List.set_cons_succ]
      refine takeD (i := 4) (d := some 88) (v := ?_) _ rfl rfl (by kernel_rfl) (by kernel_rfl) (by kernel_rfl) (fun _ _ _ h => h) (by rfl) ?_ (by assumption) ?_
      rotate_left
      · (intro w hSw; (try dsimp only at hSw); go_simp) <;> with_reducible rfl
      try simp only [Act.put, List.setIfInBounds_toArray, List.set_cons_zero, List.set_cons_succ]
      refine takeD (i := 5) (d := some 89) (v := ?_) _ rfl rfl (by kernel_rfl) (by kernel_rfl) (by kernel_rfl) (fun _ _ _ h => h) (by rfl) ?_ (by assumption) ?_
      rotate_left
      · (intro w hSw; (try dsimp only at hSw); go_simp) <;> with_reducible rfl
      try simp only [Act.put, List.setIfInBounds_toArray, List.set_cons_zero, List.set_cons_succ]
      refine wpAnyH_ready (rs := [1]) (by kernel_rfl) (by simp) ?_
      refine AllReadyH.cons rfl (fun K0 hK => ?_) AllReadyH.nil
      have y0d : wr.drew.cell? ⟨bx, 0, none⟩ = _ := y0
      have y1d : wr.drew.cell? ⟨bx, 1, none⟩ = _ := y1
      have y2d : wr.drew.cell? ⟨bx, 2, none⟩ = _ := y2
      have y3d : wr.drew.cell? ⟨bx, 3, none⟩ = _ := y3
      have y4d : wr.drew.cell? ⟨bx, 4, none⟩ = _ := y4
      try go_simp
      refine hK.out _ _ hHeld (fun hHeld => ?_)
      clear hK K0
      try simp only [Act.put, List.getElem_toArray, List.getElem_cons_succ, List.getElem_cons_zero, List.setIfInBounds_toArray, List.set_cons_zero, List.set_cons_succ]
      clear y0d y1d y2d y3d y4d y0 y1 y2 y3 y4
      obtain ⟨V, hV⟩ : ∃ V, wr.drew = V := ⟨_, rfl⟩
      have BB_V : Hid (Below wr.heap.size wr V) := by rw [← hV]; exact (Below.refl _ _).drew
      rw [hV] at hHeld
      simp only [hV]
      clear hV
      refine wpAnyH_ready (rs := [6]) (by kernel_rfl) (by simp) ?_
      refine AllReadyH.cons rfl (fun K0 hK => ?_) AllReadyH.nil
      try go_simp
      go_at_call 11
      refine (do_any B pC gc n k hasC MC stC AmC MC.length cmC Ak nk ck x.kd x.now x.m V (HP.out.pv.below BB_V.out) (HP.out.ms.belowP BB_V.out) (HKS.out.belowP BB_V.out) HKC.out.1 HKC.out.2).mono ?_
      rintro e V2 ⟨q, has', M', st', A', c', rfl, q1, s1, n1⟩
      have Q1 := Lib.hid q1
      have SS := Lib.hid s1
      have N1 := Lib.hid n1
      have BX : Hid (V2.heap[bx]? = some (.cells #[.int .i64 n, .int .i64 k, .bool hasC, .slice AmC MC.length cmC, .int .i64 stC] 26 (0, 0)) ∧ ¬ q bx) := ⟨(n1.fo.block bx (by have := HP.out.blt; have := BB_V.out.size; omega) HP.out.nq.1).trans ((BB_V.out.block bx HP.out.blt).trans HP.out.bx), fun hq => by (rcases n1.sub bx hq with h | h); exact HP.out.nq.1 h; have := HP.out.blt; have := BB_V.out.size; omega⟩
      have BW : Hid (Below B w4 V2) := (HB.out.trans (BB_V.out.mono HP.out.pv.nil)).trans (n1.fo.below (fun b hb => (HP.out.pv.low b hb).1) (by have := HP.out.pv.nil; have := BB_V.out.size; omega))
      try go_wp2_with fail
      refine hK.out _ _ (And.intro ((n1.fo.cell (fun hq => by have h1 : pC b := hq; have := (HP.out.pv.low b h1).1; have := HBL.out; omega) hHeld.1)) (And.intro ((n1.fo.cell (fun hq => by have h1 : pC b := hq; have := (HP.out.pv.low b h1).1; have := HBL.out; omega) hHeld.2.1)) ((n1.fo.cell (fun hq => by have h1 : pC b := hq; have := (HP.out.pv.low b h1).1; have := HBL.out; omega) hHeld.2.2)))) (fun hHeld => ?_)
      clear q1 s1 n1
      clear hK K0
      try simp only [Act.put, List.getElem_toArray, List.getElem_cons_succ, List.getElem_cons_zero, List.setIfInBounds_toArray, List.set_cons_zero, List.set_cons_succ]
      refine takeD (i := 7) (d := some 83) (v := ?_) _ rfl rfl (by kernel_rfl) (by kernel_rfl) (by kernel_rfl) (fun _ _ _ h => h) (by rfl) ?_ (by assumption) ?_
      rotate_left
      · (intro w hSw; (try dsimp only at hSw); go_simp) <;> with_reducible rfl
      try simp only [Act.put, List.setIfInBounds_toArray, List.set_cons_zero, List.set_cons_succ]
      refine takeD (i := 8) (d := some 91) (v := ?_) _ rfl rfl (by kernel_rfl) (by kernel_rfl) (by kernel_rfl) (fun _ _ _ h => h) (by rfl) ?_ (by assumption) ?_
      rotate_left
      · (intro w hSw; (try dsimp only at hSw); go_simp) <;> with_reducible rfl
      try simp only [Act.put, List.setIfInBounds_toArray, List.set_cons_zero, List.set_cons_succ]
      refine takeD (i := 9) (d := some 92) (v := ?_) _ rfl rfl (by kernel_rfl) (by kernel_rfl) (by kernel_rfl) (fun _ _ _ h => h) (by rfl) ?_ (by assumption) ?_
      rotate_left
      · (intro w hSw; (try dsimp only at hSw); go_simp) <;> with_reducible rfl
      try simp only [Act.put, List.setIfInBounds_toArray, List.set_cons_zero, List.set_cons_succ]
      have z0 : V2.cell? ⟨bx, 0, none⟩ = some (.int .i64 n) := by rw [(row_cell BX.out.1 0).1]; rfl
      have zf0 : V2.frozen? ⟨bx, 0, none⟩ = false := (row_cell BX.out.1 0).2
      have z1 : V2.cell? ⟨bx, 1, none⟩ = some (.int .i64 k) := by rw [(row_cell BX.out.1 1).1]; rfl
      have zf1 : V2.frozen? ⟨bx, 1, none⟩ = false := (row_cell BX.out.1 1).2
      have z2 : V2.cell? ⟨bx, 2, none⟩ = some (.bool hasC) := by rw [(row_cell BX.out.1 2).1]; rfl
      have zf2 : V2.frozen? ⟨bx, 2, none⟩ = false := (row_cell BX.out.1 2).2
      have z3 : V2.cell? ⟨bx, 3, none⟩ = some (.slice AmC MC.length cmC) := by rw [(row_cell BX.out.1 3).1]; rfl
      have zf3 : V2.frozen? ⟨bx, 3, none⟩ = false := (row_cell BX.out.1 3).2
      have z4 : V2.cell? ⟨bx, 4, none⟩ = some (.int .i64 stC) := by rw [(row_cell BX.out.1 4).1]; rfl
      have zf4 : V2.frozen? ⟨bx, 4, none⟩ = false := (row_cell BX.out.1 4).2
      have PP := PS.put Q1.out BX.out.1 (box_no _ _ _ _ _ _ _) SS.out ⟨BX.out.2, HP.out.nq.2⟩
      have P3 := Lib.hid PP.1
      have PF := Lib.hid PP.2.2
      have B3 : Hid (Below B w4 _) := BW.out.trans PP.2.1
      have hx2 := And.intro ((PF.out.cell (fun h7 => by have h8 : b = bx := h7; have := HBL.out; have := HP.out.nq.2; omega) hHeld.1)) (And.intro ((PF.out.cell (fun h7 => by have h8 : b = bx := h7; have := HBL.out; have := HP.out.nq.2; omega) hHeld.2.1)) ((PF.out.cell (fun h7 => by have h8 : b = bx := h7; have := HBL.out; have := HP.out.nq.2; omega) hHeld.2.2)))
      clear PP
      refine wpAnyH_ready (rs := [10]) (by kernel_rfl) (by simp) ?_
      refine AllReadyH.cons rfl (fun K0 hK => ?_) AllReadyH.nil
      try go_simp
      refine hK.out _ _ hx2 (fun hHeld => ?_)
      clear hK K0
      try simp only [Act.put, List.getElem_toArray, List.getElem_cons_succ, List.getElem_cons_zero, List.setIfInBounds_toArray, List.set_cons_zero, List.set_cons_succ]
      refine wpAnyH_done (by kernel_rfl) ?_ _
      clear hHeld hx2 z0 z1 z2 z3 z4 zf0 zf1 zf2 zf3 zf4
      obtain ⟨w6, hw6⟩ : ∃ w6, (((((V2.setCell ⟨bx, 0, none⟩ (.int .i64 n)).setCell ⟨bx, 1, none⟩ (.int .i64 k)).setCell ⟨bx, 2, none⟩ (.bool has')).setCell ⟨bx, 3, none⟩ (.slice A' M'.length c')).setCell ⟨bx, 4, none⟩ (.int .i64 st')) = w6 := ⟨_, rfl⟩
      rw [hw6] at P3 B3
      rw [hw6]
      clear hw6 PF
      have P6 := Lib.hid P3.out
      have B6 : Hid (Below B w4 w6) := B3.out
      have hs6 : PV lo w6 p g n k has M st := S4.out.pv.keep B6.out.size fun b _ hb => B6.out.block b (HPB.out.1 b hb)
      have hb6 : w6.heap[bw]? = some (.cells #[.int .i64 n, .int .i64 k, .bool has, .slice Am M.length cm, .int .i64 st] 26 (0, 0)) := (B6.out.block bw HPB.out.2.1).trans S4.out.bx
      have hm6 : Sq w6 (fun b => b < B) (.slice Am M.length cm) M.length (CU M) := sq_low M4.out B6.out
      obtain ⟨t, ht⟩ : ∃ t, (decide (has = has') && decide (st = st') && decide (M = M')) = t := ⟨_, rfl⟩
      have htt : (t != t) = false := by simp
      have CS1 : Hid (∀ W, Below w6.heap.size w6 W → Calls Try.prog 12 #[.pointer (some ⟨g, 0, none⟩), .agg #[.int .i64 n, .int .i64 k, .bool has, .slice Am M.length cm, .int .i64 st]] W fun e w' => e = .returned (.bool true) ∧ Below W.heap.size W w') := fun W hb => stamped_any lo p g n k has M st Am M.length cm W (hs6.below hb)
      have CS2 : Hid (∀ W, Below w6.heap.size w6 W → Calls Try.prog 12 #[.pointer (some ⟨gc, 0, none⟩), .agg #[.int .i64 n, .int .i64 k, .bool has', .slice A' M'.length c', .int .i64 st']] W fun e w' => e = .returned (.bool true) ∧ Below W.heap.size W w') := fun W hb => stamped_any B q gc n k has' M' st' A' M'.length c' W (P6.out.pv.below hb)
      have CS3 : Hid (∀ W, Below w6.heap.size w6 W → Calls Try.prog 22 #[.pointer (some ⟨g, 0, none⟩), .pointer (some ⟨gc, 0, none⟩)] W fun e w' => e = .returned (.bool t) ∧ Below W.heap.size W w') := fun W hb => (same_any lo B p q g gc n n k k has has' M M' st st' W (hs6.below hb) (P6.out.pv.below hb)).mono fun e w' h => ⟨by rw [h.1, ← ht]; simp, h.2⟩
      have CS4 : Hid (∀ W, Below w6.heap.size w6 W → Calls Try.prog 23 #[.agg #[.int .i64 n, .int .i64 k, .bool has, .slice Am M.length cm, .int .i64 st], .agg #[.int .i64 n, .int .i64 k, .bool has', .slice A' M'.length c', .int .i64 st']] W fun e w' => e = .returned (.bool t) ∧ Below W.heap.size W w') := fun W hb => (rsame_any (fun _ => True) (fun _ => True) n n k k has has' Am A' M.length M'.length cm c' st st' M M' W ((hm6.belowP hb).imp fun _ _ _ => trivial) ((P6.out.ms.belowP hb).imp fun _ _ _ => trivial) (by have := S4.out.pv.nl; omega)).mono fun e w' h => ⟨by rw [h.1, ← ht]; simp [Bool.and_assoc, Bool.and_comm, Bool.and_left_comm], h.2⟩
      have S6 := Lib.hid hs6
      have y0 : w6.cell? ⟨bw, 0, none⟩ = some (.int .i64 n) := by rw [(row_cell hb6 0).1]; rfl
      have y1 : w6.cell? ⟨bw, 1, none⟩ = some (.int .i64 k) := by rw [(row_cell hb6 1).1]; rfl
      have y2 : w6.cell? ⟨bw, 2, none⟩ = some (.bool has) := by rw [(row_cell hb6 2).1]; rfl
      have y3 : w6.cell? ⟨bw, 3, none⟩ = some (.slice Am M.length cm) := by rw [(row_cell hb6 3).1]; rfl
      have y4 : w6.cell? ⟨bw, 4, none⟩ = some (.int .i64 st) := by rw [(row_cell hb6 4).1]; rfl
      have r0 : w6.cell? ⟨bx, 0, none⟩ = some (.int .i64 n) := by rw [(row_cell P6.out.bx 0).1]; rfl
      have r1 : w6.cell? ⟨bx, 1, none⟩ = some (.int .i64 k) := by rw [(row_cell P6.out.bx 1).1]; rfl
      have r2 : w6.cell? ⟨bx, 2, none⟩ = some (.bool has') := by rw [(row_cell P6.out.bx 2).1]; rfl
      have r3 : w6.cell? ⟨bx, 3, none⟩ = some (.slice A' M'.length c') := by rw [(row_cell P6.out.bx 3).1]; rfl
      have r4 : w6.cell? ⟨bx, 4, none⟩ = some (.int .i64 st') := by rw [(row_cell P6.out.bx 4).1]; rfl
      clear hs6 hb6 hm6 ht P3 B3
      go_wp2_with fail
      refine wp_region_held_drew (S := (fun w' => Below w6.heap.size w6 w' ∧ w'.cell? ⟨bw, 0, none⟩ = some (.int .i64 n) ∧ w'.cell? ⟨bw, 1, none⟩ = some (.int .i64 k) ∧ w'.cell? ⟨bw, 2, none⟩ = some (.bool has) ∧ w'.cell? ⟨bw, 3, none⟩ = some (.slice Am M.length cm) ∧ w'.cell? ⟨bw, 4, none⟩ = some (.int .i64 st) ∧ w'.cell? ⟨bx, 0, none⟩ = some (.int .i64 n) ∧ w'.cell? ⟨bx, 1, none⟩ = some (.int .i64 k) ∧ w'.cell? ⟨bx, 2, none⟩ = some (.bool has') ∧ w'.cell? ⟨bx, 3, none⟩ = some (.slice A' M'.length c') ∧ w'.cell? ⟨bx, 4, none⟩ = some (.int .i64 st'))) (by kernel_rfl) ?_ (fun hHeld => ?_)
      · exact ⟨(Below.refl _ _).drew, y0, y1, y2, y3, y4, r0, r1, r2, r3, r4⟩
      clear y0 y1 y2 y3 y4 r0 r1 r2 r3 r4
      refine takeD (i := 0) (d := some 93) (v := ?_) _ rfl rfl (by kernel_rfl) (by kernel_rfl) (by kernel_rfl) (fun _ _ _ h => h) (by rfl) ?_ (by assumption) ?_
      rotate_left
      · (intro w hSw; (try dsimp only at hSw); go_simp) <;> with_reducible rfl
      try simp only [Act.put, List.setIfInBounds_toArray, List.set_cons_zero, List.set_cons_succ]
      refine takeD (i := 1) (d := some 94) (v := ?_) _ rfl rfl (by kernel_rfl) (by kernel_rfl) (by kernel_rfl) (fun _ _ _ h => h) (by rfl) ?_ (by assumption) ?_
      rotate_left
      · (intro w hSw; (try dsimp only at hSw); go_simp) <;> with_reducible rfl
      try simp only [Act.put, List.setIfInBounds_toArray, List.set_cons_zero, List.set_cons_succ]
      refine wpAnyH_ready (rs := [2]) (by kernel_rfl) (by simp) ?_
      refine AllReadyH.cons rfl (fun K0 hK => ?_) AllReadyH.nil
      try go_simp
      go_at_call 12
      refine (CS1.out _ hHeld.1).mono ?_
      rintro e w2 ⟨rfl, b_⟩
      try go_wp2_with fail
      refine hK.out _ _ (And.intro (hHeld.1.trans (b_.mono hHeld.1.size)) (And.intro (cell_later b_ hHeld.2.1) (And.intro (cell_later b_ hHeld.2.2.1) (And.intro (cell_later b_ hHeld.2.2.2.1) (And.intro (cell_later b_ hHeld.2.2.2.2.1) (And.intro (cell_later b_ hHeld.2.2.2.2.2.1) (And.intro (cell_later b_ hHeld.2.2.2.2.2.2.1) (And.intro (cell_later b_ hHeld.2.2.2.2.2.2.2.1) (And.intro (cell_later b_ hHeld.2.2.2.2.2.2.2.2.1) (And.intro (cell_later b_ hHeld.2.2.2.2.2.2.2.2.2.1) (cell_later b_ hHeld.2.2.2.2.2.2.2.2.2.2))))))))))) (fun hHeld => ?_)
      clear b_
      clear hK K0
      try simp only [Act.put, List.getElem_toArray, List.getElem_cons_succ, List.getElem_cons_zero, List.setIfInBounds_toArray, List.set_cons_zero, List.set_cons_succ]
      refine takeD (i := 3) (d := some 96) (v := ?_) _ rfl rfl (by kernel_rfl) (by kernel_rfl) (by kernel_rfl) (fun _ _ _ h => h) (by rfl) ?_ (by assumption) ?_
      rotate_left
      · (intro w hSw; (try dsimp only at hSw); go_simp) <;> with_reducible rfl
      try simp only [Act.put, List.setIfInBounds_toArray, List.set_cons_zero, List.set_cons_succ]
      refine takeD (i := 4) (d := some 97) (v := ?_) _ rfl rfl (by kernel_rfl) (by kernel_rfl) (by kernel_rfl) (fun _ _ _ h => h) (by rfl) ?_ (by assumption) ?_
      rotate_left
      · (intro w hSw; (try dsimp only at hSw); go_simp) <;> with_reducible rfl
      try simp only [Act.put, List.setIfInBounds_toArray, List.set_cons_zero, List.set_cons_succ]
      refine takeD (i := 5) (d := some 98) (v := ?_) _ rfl rfl (by kernel_rfl) (by kernel_rfl) (by kernel_rfl) (fun _ _ _ h => h) (by rfl) ?_ (by assumption) ?_
      rotate_left
      · (intro w hSw; (try dsimp only at hSw); go_simp) <;> with_reducible rfl
      try simp only [Act.put, List.setIfInBounds_toArray, List.set_cons_zero, List.set_cons_succ]
      refine takeD (i := 6) (d := some 99) (v := ?_) _ rfl rfl (by kernel_rfl) (by kernel_rfl) (by kernel_rfl) (fun _ _ _ h => h) (by rfl) ?_ (by assumption) ?_
      rotate_left
      · (intro w hSw; (try dsimp only at hSw); go_simp) <;> with_reducible rfl
      try simp only [Act.put, List.setIfInBounds_toArray, List.set_cons_zero, List.set_cons_succ]
      refine wpAnyH_ready (rs := [7]) (by kernel_rfl) (by simp) ?_
      refine AllReadyH.cons rfl (fun K0 hK => ?_) AllReadyH.nil
      try go_simp
      go_at_call 12
      refine (CS2.out _ hHeld.1).mono ?_
      rintro e w7 ⟨rfl, b_⟩
      try go_wp2_with fail
      refine hK.out _ _ (And.intro (hHeld.1.trans (b_.mono hHeld.1.size)) (And.intro (cell_later b_ hHeld.2.1) (And.intro (cell_later b_ hHeld.2.2.1) (And.intro (cell_later b_ hHeld.2.2.2.1) (And.intro (cell_later b_ hHeld.2.2.2.2.1) (And.intro (cell_later b_ hHeld.2.2.2.2.2.1) (And.intro (cell_later b_ hHeld.2.2.2.2.2.2.1) (And.intro (cell_later b_ hHeld.2.2.2.2.2.2.2.1) (And.intro (cell_later b_ hHeld.2.2.2.2.2.2.2.2.1) (And.intro (cell_later b_ hHeld.2.2.2.2.2.2.2.2.2.1) (cell_later b_ hHeld.2.2.2.2.2.2.2.2.2.2))))))))))) (fun hHeld => ?_)
      clear b_
      clear hK K0
      try simp only [Act.put, List.getElem_toArray, List.getElem_cons_succ, List.getElem_cons_zero, List.setIfInBounds_toArray, List.set_cons_zero, List.set_cons_succ]
      refine takeD (i := 8) (d := some 101) (v := ?_) _ rfl rfl (by kernel_rfl) (by kernel_rfl) (by kernel_rfl) (fun _ _ _ h => h) (by rfl) ?_ (by assumption) ?_
      rotate_left
      · (intro w hSw; (try dsimp only at hSw); go_simp) <;> with_reducible rfl
      try simp only [Act.put, List.setIfInBounds_toArray, List.set_cons_zero, List.set_cons_succ]
      refine takeD (i := 9) (d := some 102) (v := ?_) _ rfl rfl (by kernel_rfl) (by kernel_rfl) (by kernel_rfl) (fun _ _ _ h => h) (by rfl) ?_ (by assumption) ?_
      rotate_left
      · (intro w hSw; (try dsimp only at hSw); go_simp) <;> with_reducible rfl
      try simp only [Act.put, List.setIfInBounds_toArray, List.set_cons_zero, List.set_cons_succ]
      refine takeD (i := 10) (d := some 103) (v := ?_) _ rfl rfl (by kernel_rfl) (by kernel_rfl) (by kernel_rfl) (fun _ _ _ h => h) (by rfl) ?_ (by assumption) ?_
      rotate_left
      · (intro w hSw; (try dsimp only at hSw); go_simp) <;> with_reducible rfl
      try simp only [Act.put, List.setIfInBounds_toArray, List.set_cons_zero, List.set_cons_succ]
      refine takeD (i := 11) (d := some 104) (v := ?_) _ rfl rfl (by kernel_rfl) (by kernel_rfl) (by kernel_rfl) (fun _ _ _ h => h) (by rfl) ?_ (by assumption) ?_
      rotate_left
      · (intro w hSw; (try dsimp only at hSw); go_simp) <;> with_reducible rfl
      try simp only [Act.put, List.setIfInBounds_toArray, List.set_cons_zero, List.set_cons_succ]
      refine takeD (i := 12) (d := some 105) (v := ?_) _ rfl rfl (by kernel_rfl) (by kernel_rfl) (by kernel_rfl) (fun _ _ _ h => h) (by rfl) ?_ (by assumption) ?_
      rotate_left
      · (intro w hSw; (try dsimp only at hSw); go_simp) <;> with_reducible rfl
      try simp only [Act.put, List.setIfInBounds_toArray, List.set_cons_zero, List.set_cons_succ]
      refine takeD (i := 14) (d := some 107) (v := ?_) _ rfl rfl (by kernel_rfl) (by kernel_rfl) (by kernel_rfl) (fun _ _ _ h => h) (by rfl) ?_ (by assumption) ?_
      rotate_left
      · (intro w hSw; (try dsimp only at hSw); go_simp) <;> with_reducible rfl
      try simp only [Act.put, List.setIfInBounds_toArray, List.set_cons_zero, List.set_cons_succ]
      refine takeD (i := 15) (d := some 108) (v := ?_) _ rfl rfl (by kernel_rfl) (by kernel_rfl) (by kernel_rfl) (fun _ _ _ h => h) (by rfl) ?_ (by assumption) ?_
      rotate_left
      · (intro w hSw; (try dsimp only at hSw); go_simp) <;> with_reducible rfl
      try simp only [Act.put, List.setIfInBounds_toArray, List.set_cons_zero, List.set_cons_succ]
      refine wpAnyH_ready (rs := [13]) (by kernel_rfl) (by simp) ?_
      refine AllReadyH.cons rfl (fun K0 hK => ?_) AllReadyH.nil
      try go_simp
      go_at_call 22
      refine (CS3.out _ hHeld.1).mono ?_
      rintro e w13 ⟨rfl, b_⟩
      try go_wp2_with fail
      refine hK.out _ _ (And.intro (hHeld.1.trans (b_.mono hHeld.1.size)) (And.intro (cell_later b_ hHeld.2.1) (And.intro (cell_later b_ hHeld.2.2.1) (And.intro (cell_later b_ hHeld.2.2.2.1) (And.intro (cell_later b_ hHeld.2.2.2.2.1) (And.intro (cell_later b_ hHeld.2.2.2.2.2.1) (And.intro (cell_later b_ hHeld.2.2.2.2.2.2.1) (And.intro (cell_later b_ hHeld.2.2.2.2.2.2.2.1) (And.intro (cell_later b_ hHeld.2.2.2.2.2.2.2.2.1) (And.intro (cell_later b_ hHeld.2.2.2.2.2.2.2.2.2.1) (cell_later b_ hHeld.2.2.2.2.2.2.2.2.2.2))))))))))) (fun hHeld => ?_)
      clear b_
      clear hK K0
      try simp only [Act.put, List.getElem_toArray, List.getElem_cons_succ, List.getElem_cons_zero, List.setIfInBounds_toArray, List.set_cons_zero, List.set_cons_succ]
      refine wpAnyH_ready (rs := [16]) (by kernel_rfl) (by simp) ?_
      refine AllReadyH.cons rfl (fun K0 hK => ?_) AllReadyH.nil
      try go_simp
      go_at_call 23
      refine (CS4.out _ hHeld.1).mono ?_
      rintro e w16 ⟨rfl, b_⟩
      try go_wp2_with fail
      refine hK.out _ _ (And.intro (hHeld.1.trans (b_.mono hHeld.1.size)) (And.intro (cell_later b_ hHeld.2.1) (And.intro (cell_later b_ hHeld.2.2.1) (And.intro (cell_later b_ hHeld.2.2.2.1) (And.intro (cell_later b_ hHeld.2.2.2.2.1) (And.intro (cell_later b_ hHeld.2.2.2.2.2.1) (And.intro (cell_later b_ hHeld.2.2.2.2.2.2.1) (And.intro (cell_later b_ hHeld.2.2.2.2.2.2.2.1) (And.intro (cell_later b_ hHeld.2.2.2.2.2.2.2.2.1) (And.intro (cell_later b_ hHeld.2.2.2.2.2.2.2.2.2.1) (cell_later b_ hHeld.2.2.2.2.2.2.2.2.2.2))))))))))) (fun hHeld => ?_)
      clear b_
      clear hK K0
      try simp only [Act.put, List.getElem_toArray, List.getElem_cons_succ, List.getElem_cons_zero, List.setIfInBounds_toArray, List.set_cons_zero, List.set_cons_succ]
      refine takeD (i := 17) (d := some 110) (v := ?_) _ rfl rfl (by kernel_rfl) (by kernel_rfl) (by kernel_rfl) (fun _ _ _ h => h) (by rfl) ?_ (by assumption) ?_
      rotate_left
      · (intro w hSw; (try dsimp only at hSw); go_simp) <;> with_reducible rfl
      try simp only [Act.put, List.setIfInBounds_toArray, List.set_cons_zero, List.set_cons_succ]
      refine takeD (i := 18) (d := some 111) (v := ?_) _ rfl rfl (by kernel_rfl) (by kernel_rfl) (by kernel_rfl) (fun _ _ _ h => h) (by rfl) ?_ (by assumption) ?_
      rotate_left
      · (intro w hSw; (try dsimp only at hSw); go_simp) <;> with_reducible rfl
      try simp only [Act.put, List.setIfInBounds_toArray, List.set_cons_zero, List.set_cons_succ]
      refine wpAnyH_done (by kernel_rfl) ?_ _
      have HF := Lib.hid hHeld.1
      clear hHeld
      have P7 := Lib.hid (P6.out.below HF.out)
      have B7 : Hid (Below B w4 _) := B6.out.trans (HF.out.mono P6.out.pv.nil)
      clear P6 B6 S6 CS1 CS2 CS3 CS4
      go_wp2_with fail
      go_roundw
      case rel =>
        have Q : CR B bx gc len2 n k w4 (.int .i64 ((j : Int) + 1)) _ := ⟨⟨j + 1, q, has', M', st', A', c', HX.out, by go_num, P7.out, B7.out⟩⟩
        first | exact Q | ((repeat apply Exists.intro); exact ⟨Q, rfl⟩)
      case measure => have := HX.out; simp [intOf]; omega
end Go.Proofs.Ytmodkfboolmckaa.Sa
