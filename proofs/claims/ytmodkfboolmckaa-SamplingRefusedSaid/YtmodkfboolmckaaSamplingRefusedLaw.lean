/-
  SamplingRefused's walk. Each statement bears its own conditions.
-/
import Derived.Test.YtmodkfboolmckaaSaU
namespace Go.Proofs.Ytmodkfboolmckaa.Sa
open Go.RowKit Go.Proofs.Ytmodkfboolmckaa.F Go.Proofs.Ytmodkfboolmckaa.U
set_option linter.unusedVariables false
set_option linter.unusedSimpArgs false
structure AR (lo bw g len : Nat) (n k : Int) (w : World) (iv : Value) (wr : World) : Prop where
  ex : ∃ (j : Nat) (p : Nat → Prop) (has : Bool) (M : List Int) (st : Int) (Am : Option Addr) (cm : Nat), j ≤ len ∧ iv = .int .i64 (j : Int) ∧ PS lo bw wr p g n k has M st Am cm ∧ Below lo w wr
structure LE (lo bw g : Nat) (n k : Int) (w : World) (wr : World) : Prop where
  ex : ∃ (p : Nat → Prop) (has : Bool) (M : List Int) (st : Int) (Am : Option Addr) (cm : Nat), PS lo bw wr p g n k has M st Am cm ∧ Below lo w wr
set_option maxRecDepth 100000 in
set_option maxHeartbeats 4000000 in
theorem read_below (lo : Nat) (p : Nat → Prop) (g : Nat) (n k : Int) (has : Bool) (M : List Int) (st : Int) (t : Int) (w : World) (h : PV lo w p g n k has M st) : Calls Try.prog 14 #[.pointer (some ⟨g, 0, none⟩), .int .i64 t] w fun e w' => (∃ r, e = .returned r) ∧ Below w.heap.size w w' := by
  by_cases ht : tk t
  rotate_left
  · refine (read_bad g t w ht).mono ?_
    rintro e w' ⟨rfl, rfl⟩
    exact ⟨⟨_, rfl⟩, Below.refl _ _⟩
  cases has with
  | false =>
    refine (read_none lo p g n k false M st t w h ht rfl).mono ?_
    rintro e w' ⟨rfl, rfl⟩
    exact ⟨⟨_, rfl⟩, Below.refl _ _⟩
  | true =>
    refine (read_any lo p g n k true M st t w h ht rfl).mono ?_
    rintro e w' ⟨r, rfl, _, b⟩
    exact ⟨⟨_, rfl⟩, b⟩
set_option maxRecDepth 100000 in
set_option maxHeartbeats 16000000 in
theorem refused_walk (a : Option Addr) (len cap : Nat) (m0 : List AC) (a1 : Option Addr) (len1 cap1 : Nat) (z1 : List Int) (a2 : Int) (w : World) (h0 : Row w 3 (RA w) (.slice a len cap) m0) (h1 : IsRow .u32 w a1 len1 cap1 z1) : Calls Try.prog 8 #[.slice a len cap, .slice a1 len1 cap1, .int .i64 a2] w fun e w' => e = .returned (.bool true) ∧ Below w.heap.size w w' := by
  have HR := Lib.hid h0
  have he := he_sa
  obtain ⟨lo, hlo⟩ : ∃ lo, w.heap.size = lo := ⟨_, rfl⟩
  have HLO : Hid (lo ≤ w.heap.size ∧ w.heap.size ≤ lo) := by unfold Hid; omega
  rw [hlo]
  clear h0
  obtain ⟨i0, hi, hz0, hz1, hz2⟩ := info_of u32_info
  have hcp := h1.le.1
  have HFEW : Hid (∀ W, Calls Try.prog 24 #[.slice a1 len1 cap1] W fun e w' => e = .returned (.slice a1 (min len1 40) cap1) ∧ w' = W) := fun W => few_any a1 len1 cap1 W hcp (fun h => by
    rcases h1 with ⟨_, _, h2, _⟩ | ⟨x, h2, _⟩
    · exact h2
    · rw [h] at h2; cases h2)
  obtain ⟨j1, hj1⟩ : ∃ j, min len1 40 = j := ⟨_, rfl⟩
  rw [hj1] at HFEW
  have hsq := Sq_take (j := j1) h1.sq (by omega)
  obtain ⟨K, hK⟩ : ∃ K, (z1.take len1).take j1 = K := ⟨_, rfl⟩
  rw [← List.map_take, hK] at hsq
  have HSQ : Hid (Sq w (fun b => b < lo) (.slice a1 j1 cap1) j1 (CU K)) := hsq.imp fun b _ hb => by have := HLO.out; omega
  have HJ1 : Hid (j1 ≤ 40 ∧ K.length = j1) := by
    refine ⟨by omega, ?_⟩
    have := hsq.len
    simpa using this
  obtain ⟨q2, hq2⟩ : ∃ q, (IntKind.u64.wrap a2).tmod 100 = q := ⟨_, rfl⟩
  have u2 := u64_tmod a2 100 (by decide)
  rw [hq2] at u2
  obtain ⟨u2a, u2b⟩ := u2
  have u2c : q2 ≤ 99 := by omega
  have HQ2 : Hid (0 ≤ q2 ∧ q2 ≤ 99) := ⟨u2a, u2c⟩
  clear h1 hcp hj1 hsq hK u2b
  go_enter Try.func8, Try.ntmps8
  go_wp2_with fail
  refine (begin_any 3 9 w).mono ?_
  rintro e w1 ⟨n, k, g, hn, hk, rfl, q1, b1⟩
  have HNK : Hid (n = 1 + (IntKind.u64.wrap 3).tmod 32 ∧ k = (IntKind.u64.wrap 9).tmod 1048577) := ⟨hn, hk⟩
  clear hn hk
  rw [hlo] at q1 b1
  obtain ⟨bw, hbw⟩ : ∃ bw, w1.heap.size = bw := ⟨_, rfl⟩
  have hx : Below w1.heap.size w1 (w1.alloc (.cells #[.int .i64 n, .int .i64 k, .bool false, .slice none 0 0, .int .i64 0] 26)) := (Below.refl _ _).alloc (Nat.le_refl _) _
  have P2 : Hid (PS lo bw (w1.alloc (.cells #[.int .i64 n, .int .i64 k, .bool false, .slice none 0 0, .int .i64 0] 26)) (fun b => b = g) g n k false [] 0 none 0) :=
    ⟨q1.below hx, by rw [← hbw]; exact heap_alloc_new w1 _, Sq.nil _ _, fun e => by have := q1.lt; have e : bw = g := e; omega, by have := q1.nil; omega⟩
  have B2 : Hid (Below lo w (w1.alloc (.cells #[.int .i64 n, .int .i64 k, .bool false, .slice none 0 0, .int .i64 0] 26))) := b1.trans (hx.mono q1.nil)
  clear q1 b1 hx
  go_wp2_with fail
  try simp only [hbw]
  refine (told_any _).mono ?_
  rintro e w3 ⟨rfl, b3⟩
  have P3 := Lib.hid (P2.out.below b3)
  have B3 : Hid (Below lo w w3) := B2.out.trans (b3.mono P2.out.pv.nil)
  clear b3 P2 B2 hbw
  go_upto_block 0 with fail
  go_cut [9] (fun iv wx => LE lo bw g n k w wx)
  case first =>
    go_wp2_with fail
    go_loopw [9] (fun iv wr => AR lo bw g len n k w iv wr) (fun i _ => len - (intOf i).toNat)
    case atStart => exact ⟨⟨0, _, false, [], 0, none, 0, Nat.zero_le _, rfl, P3.out, B3.out⟩⟩
    case round =>
      obtain ⟨⟨j, p, has, M, st, Am, cm, hj, rfl, hps, hb⟩⟩ := hrel
      have HB := Lib.hid hb
      have HP := Lib.hid hps
      clear hb hps
      by_cases hlt : j < len
      rotate_left
      · have hjI : ¬ (j : Int) < (len : Int) := by omega
        have hjb : decide ((j : Int) < (len : Int)) = false := by simpa using hjI
        have HX : Hid (¬ j < len) := hlt
        clear hlt hj
        go_wp2_with fail
        go_meet
        case rel => exact ⟨⟨p, has, M, st, Am, cm, HP.out, HB.out⟩⟩
      by_cases hcap : j < 50
      rotate_left
      · have hjI : (j : Int) < (len : Int) := by omega
        have hjb : decide ((j : Int) < (len : Int)) = true := by simpa using hjI
        have hcI : ¬ (j : Int) < 50 := by omega
        have hcb : decide ((j : Int) < 50) = false := by simpa using hcI
        have HX : Hid (¬ j < 50) := hcap
        clear hlt hj hcap
        go_wp2_with fail
        go_meet
        case rel => exact ⟨⟨p, has, M, st, Am, cm, HP.out, HB.out⟩⟩
      have hjI : (j : Int) < (len : Int) := by omega
      have hjb : decide ((j : Int) < (len : Int)) = true := by simpa using hjI
      have hcI : (j : Int) < 50 := by omega
      have hcb : decide ((j : Int) < 50) = true := by simpa using hcI
      have HX : Hid (j < len) := hlt
      obtain ⟨hlen, b, off, x, cs, hax, hbl, _, hRA, _, hc⟩ := HR.out.at_ j hlt
      clear hlen
      subst hax
      obtain ⟨v', rfl, hK⟩ := hRA
      have HBL : Hid (b < lo) := by have := HLO.out; unfold Hid; omega
      have e0 : wr.cell? ⟨b, off + j * 3, none⟩ = some (.int .i64 x.kd) := cell_low HB.out HBL.out (hc 0 _ rfl)
      have e1 : wr.cell? ⟨b, off + j * 3 + 1, none⟩ = some (.int .i64 x.now) := cell_low HB.out HBL.out (hc 1 _ rfl)
      have e2 : wr.cell? ⟨b, off + j * 3 + 2, none⟩ = some v' := cell_low HB.out HBL.out (hc 2 _ rfl)
      obtain ⟨Ak, ck, rfl⟩ := hK.form
      have hK2 := hK.sq.2
      obtain ⟨nk, hnk⟩ : ∃ nk, x.m.length = nk := ⟨_, rfl⟩
      rw [hnk] at e2 hK2
      have HKC : Hid (nk ≤ ck ∧ (Ak = none → ck = 0)) := hK2.2
      have HKS : Hid (Sq wr (fun b => ¬ p b) (.slice Ak nk ck) nk (CU x.m)) := (sq_low (hK2.1.imp fun b _ hb => by have := HLO.out; omega) HB.out).imp fun b _ hb hp => by have := (HP.out.pv.low b hp).1; omega
      have HPL : Hid (∀ b, wr.heap.size ≤ b → ¬ p b) := fun b hb hp => by have := (HP.out.pv.low b hp).2; omega
      clear hc hbl hlt hj hK hK2 hnk hcap
      have y0 : wr.cell? ⟨bw, 0, none⟩ = some (.int .i64 n) := by rw [(row_cell HP.out.bx 0).1]; rfl
      have y1 : wr.cell? ⟨bw, 1, none⟩ = some (.int .i64 k) := by rw [(row_cell HP.out.bx 1).1]; rfl
      have y2 : wr.cell? ⟨bw, 2, none⟩ = some (.bool has) := by rw [(row_cell HP.out.bx 2).1]; rfl
      have y3 : wr.cell? ⟨bw, 3, none⟩ = some (.slice Am M.length cm) := by rw [(row_cell HP.out.bx 3).1]; rfl
      have y4 : wr.cell? ⟨bw, 4, none⟩ = some (.int .i64 st) := by rw [(row_cell HP.out.bx 4).1]; rfl
      go_wp2_with fail
      refine wp_region_held_drew (S := (fun w' => w'.cell? ⟨b, off + j * 3, none⟩ = some (.int .i64 x.kd) ∧ w'.cell? ⟨b, off + j * 3 + 1, none⟩ = some (.int .i64 x.now) ∧ w'.cell? ⟨b, off + j * 3 + 2, none⟩ = some (.slice Ak nk ck))) (by kernel_rfl) ?_ (fun hHeld => ?_)
      · exact ⟨e0, e1, e2⟩
      clear e0 e1 e2
      refine takeD (i := 0) (d := some 36) (v := ?_) _ rfl rfl (by kernel_rfl) (by kernel_rfl) (by kernel_rfl) (fun _ _ _ h => h) (by rfl) ?_ (by assumption) ?_
      rotate_left
      · (intro w hSw; (try dsimp only at hSw); go_simp) <;> with_reducible rfl
      try simp only [Act.put, List.setIfInBounds_toArray, List.set_cons_zero, List.set_cons_succ]
      refine takeD (i := 2) (d := some 38) (v := ?_) _ rfl rfl (by kernel_rfl) (by kernel_rfl) (by kernel_rfl) (fun _ _ _ h => h) (by rfl) ?_ (by assumption) ?_
      rotate_left
      · (intro w hSw; (try dsimp only at hSw); go_simp) <;> with_reducible rfl
      try simp only [Act.put, List.setIfInBounds_toArray, List.set_cons_zero, List.set_cons_succ]
      refine takeD (i := 3) (d := some 39) (v := ?_) _ rfl rfl (by kernel_rfl) (by kernel_rfl) (by kernel_rfl) (fun _ _ _ h => h) (by rfl) ?_ (by assumption) ?_
      rotate_left
      · (intro w hSw; (try dsimp only at hSw); go_simp) <;> with_reducible rfl
      try simp only [Act.put, List.setIfInBounds_toArray, List.set_cons_zero, List.set_cons_succ]
      refine takeD (i := 4) (d := some 40) (v := ?_) _ rfl rfl (by kernel_rfl) (by kernel_rfl) (by kernel_rfl) (fun _ _ _ h => h) (by rfl) ?_ (by assumption) ?_
      rotate_left
      · (intro w hSw; (try dsimp only at hSw); go_simp) <;> with_reducible rfl
      try simp only [Act.put, List.setIfInBounds_toArray, List.set_cons_zero, List.set_cons_succ]
      refine takeD (i := 5) (d := some 41) (v := ?_) _ rfl rfl (by kernel_rfl) (by kernel_rfl) (by kernel_rfl) (fun _ _ _ h => h) (by rfl) ?_ (by assumption) ?_
      rotate_left
      · (intro w hSw; (try dsimp only at hSw); go_simp) <;> with_reducible rfl
      try simp only [Act.put, List.setIfInBounds_toArray, List.set_cons_zero, List.set_cons_succ]
      refine wpAnyH_ready (rs := [1]) (by kernel_rfl) (by simp) ?_
      refine AllReadyH.cons rfl (fun K0 hK => ?_) AllReadyH.nil
      have y0d : wr.drew.cell? ⟨bw, 0, none⟩ = _ := y0
      have y1d : wr.drew.cell? ⟨bw, 1, none⟩ = _ := y1
      have y2d : wr.drew.cell? ⟨bw, 2, none⟩ = _ := y2
      have y3d : wr.drew.cell? ⟨bw, 3, none⟩ = _ := y3
      have y4d : wr.drew.cell? ⟨bw, 4, none⟩ = _ := y4
      try go_simp
      refine hK.out _ _ hHeld (fun hHeld => ?_)
      clear hK K0
      try simp only [Act.put, List.getElem_toArray, List.getElem_cons_succ, List.getElem_cons_zero, List.setIfInBounds_toArray, List.set_cons_zero, List.set_cons_succ]
      clear y0d y1d y2d y3d y4d y0 y1 y2 y3 y4
      obtain ⟨V, hV⟩ : ∃ V, wr.drew = V := ⟨_, rfl⟩
      have BB_V : Hid (Below wr.heap.size wr V) := by rw [← hV]; exact (Below.refl _ _).drew
      rw [hV] at hHeld
      simp only [hV]
      clear hV
      refine wpAnyH_ready (rs := [6]) (by kernel_rfl) (by simp) ?_
      refine AllReadyH.cons rfl (fun K0 hK => ?_) AllReadyH.nil
      try go_simp
      go_at_call 11
      refine (do_any lo p g n k has M st Am M.length cm Ak nk ck x.kd x.now x.m V (HP.out.pv.below BB_V.out) (HP.out.ms.belowP BB_V.out) (HKS.out.belowP BB_V.out) HKC.out.1 HKC.out.2).mono ?_
      rintro e V2 ⟨q, has', M', st', A', c', rfl, q1, s1, n1⟩
      have Q1 := Lib.hid q1
      have SS := Lib.hid s1
      have N1 := Lib.hid n1
      have BX : Hid (V2.heap[bw]? = some (.cells #[.int .i64 n, .int .i64 k, .bool has, .slice Am M.length cm, .int .i64 st] 26 (0, 0)) ∧ ¬ q bw) := ⟨(n1.fo.block bw (by have := HP.out.blt; have := BB_V.out.size; omega) HP.out.nq.1).trans ((BB_V.out.block bw HP.out.blt).trans HP.out.bx), fun hq => by (rcases n1.sub bw hq with h | h); exact HP.out.nq.1 h; have := HP.out.blt; have := BB_V.out.size; omega⟩
      have BW : Hid (Below lo w V2) := (HB.out.trans (BB_V.out.mono HP.out.pv.nil)).trans (n1.fo.below (fun b hb => (HP.out.pv.low b hb).1) (by have := HP.out.pv.nil; have := BB_V.out.size; omega))
      try go_wp2_with fail
      refine hK.out _ _ (And.intro ((n1.fo.cell (fun hq => by have h1 : p b := hq; have := (HP.out.pv.low b h1).1; have := HBL.out; omega) hHeld.1)) (And.intro ((n1.fo.cell (fun hq => by have h1 : p b := hq; have := (HP.out.pv.low b h1).1; have := HBL.out; omega) hHeld.2.1)) ((n1.fo.cell (fun hq => by have h1 : p b := hq; have := (HP.out.pv.low b h1).1; have := HBL.out; omega) hHeld.2.2)))) (fun hHeld => ?_)
      clear q1 s1 n1
      clear hK K0
      try simp only [Act.put, List.getElem_toArray, List.getElem_cons_succ, List.getElem_cons_zero, List.setIfInBounds_toArray, List.set_cons_zero, List.set_cons_succ]
      refine takeD (i := 7) (d := some 35) (v := ?_) _ rfl rfl (by kernel_rfl) (by kernel_rfl) (by kernel_rfl) (fun _ _ _ h => h) (by rfl) ?_ (by assumption) ?_
      rotate_left
      · (intro w hSw; (try dsimp only at hSw); go_simp) <;> with_reducible rfl
      try simp only [Act.put, List.setIfInBounds_toArray, List.set_cons_zero, List.set_cons_succ]
      refine takeD (i := 8) (d := some 43) (v := ?_) _ rfl rfl (by kernel_rfl) (by kernel_rfl) (by kernel_rfl) (fun _ _ _ h => h) (by rfl) ?_ (by assumption) ?_
      rotate_left
      · (intro w hSw; (try dsimp only at hSw); go_simp) <;> with_reducible rfl
      try simp only [Act.put, List.setIfInBounds_toArray, List.set_cons_zero, List.set_cons_succ]
      refine takeD (i := 9) (d := some 44) (v := ?_) _ rfl rfl (by kernel_rfl) (by kernel_rfl) (by kernel_rfl) (fun _ _ _ h => h) (by rfl) ?_ (by assumption) ?_
      rotate_left
      · (intro w hSw; (try dsimp only at hSw); go_simp) <;> with_reducible rfl
      try simp only [Act.put, List.setIfInBounds_toArray, List.set_cons_zero, List.set_cons_succ]
      have z0 : V2.cell? ⟨bw, 0, none⟩ = some (.int .i64 n) := by rw [(row_cell BX.out.1 0).1]; rfl
      have zf0 : V2.frozen? ⟨bw, 0, none⟩ = false := (row_cell BX.out.1 0).2
      have z1 : V2.cell? ⟨bw, 1, none⟩ = some (.int .i64 k) := by rw [(row_cell BX.out.1 1).1]; rfl
      have zf1 : V2.frozen? ⟨bw, 1, none⟩ = false := (row_cell BX.out.1 1).2
      have z2 : V2.cell? ⟨bw, 2, none⟩ = some (.bool has) := by rw [(row_cell BX.out.1 2).1]; rfl
      have zf2 : V2.frozen? ⟨bw, 2, none⟩ = false := (row_cell BX.out.1 2).2
      have z3 : V2.cell? ⟨bw, 3, none⟩ = some (.slice Am M.length cm) := by rw [(row_cell BX.out.1 3).1]; rfl
      have zf3 : V2.frozen? ⟨bw, 3, none⟩ = false := (row_cell BX.out.1 3).2
      have z4 : V2.cell? ⟨bw, 4, none⟩ = some (.int .i64 st) := by rw [(row_cell BX.out.1 4).1]; rfl
      have zf4 : V2.frozen? ⟨bw, 4, none⟩ = false := (row_cell BX.out.1 4).2
      have PP := PS.put Q1.out BX.out.1 (box_no _ _ _ _ _ _ _) SS.out ⟨BX.out.2, HP.out.nq.2⟩
      have P3 := Lib.hid PP.1
      have PF := Lib.hid PP.2.2
      have B3 : Hid (Below lo w _) := BW.out.trans PP.2.1
      have hx2 := And.intro ((PF.out.cell (fun h7 => by have h8 : b = bw := h7; have := HBL.out; have := HP.out.nq.2; omega) hHeld.1)) (And.intro ((PF.out.cell (fun h7 => by have h8 : b = bw := h7; have := HBL.out; have := HP.out.nq.2; omega) hHeld.2.1)) ((PF.out.cell (fun h7 => by have h8 : b = bw := h7; have := HBL.out; have := HP.out.nq.2; omega) hHeld.2.2)))
      clear PP
      refine wpAnyH_ready (rs := [10]) (by kernel_rfl) (by simp) ?_
      refine AllReadyH.cons rfl (fun K0 hK => ?_) AllReadyH.nil
      try go_simp
      refine hK.out _ _ hx2 (fun hHeld => ?_)
      clear hK K0
      try simp only [Act.put, List.getElem_toArray, List.getElem_cons_succ, List.getElem_cons_zero, List.setIfInBounds_toArray, List.set_cons_zero, List.set_cons_succ]
      refine wpAnyH_done (by kernel_rfl) ?_ _
      clear hHeld hx2 z0 z1 z2 z3 z4 zf0 zf1 zf2 zf3 zf4
      go_wp2_with fail
      go_roundw
      case rel =>
        have Q : AR lo bw g len n k w (.int .i64 ((j : Int) + 1)) _ := ⟨⟨j + 1, q, has', M', st', A', c', HX.out, by go_num, P3.out, B3.out⟩⟩
        first | exact Q | ((repeat apply Exists.intro); exact ⟨Q, rfl⟩)
      case measure => have := HX.out; simp [intOf]; omega
  case rest =>
    obtain ⟨w4, hw4⟩ : ∃ w', w' = wc := ⟨_, rfl⟩
    subst hw4
    obtain ⟨⟨p, has, M, st, Am, cm, hps, hb⟩⟩ := hcut
    have HP4 := Lib.hid hps.pv
    have B4 := Lib.hid hb
    have HN4 : Hid (n = 4) := HNK.out.1.trans rfl
    clear hps hb P3 B3
    go_wp2_with fail
    refine (clone_any lo p g n k has M st _ HP4.out).mono ?_
    rintro e w5 ⟨g5, q5, rfl, c5, b5⟩
    have C5 := Lib.hid (c5.less HP4.out.nil)
    have HP5 := Lib.hid (HP4.out.below b5)
    have B5 : Hid (Below lo w w5) := B4.out.trans (b5.mono HP4.out.nil)
    have S5 := Lib.hid (sq_low HSQ.out B5.out)
    have RD : Hid (Reads w5 w5.heap.size 1 a1 j1 (CU K)) := (S5.out.st.reads).2
    have HZ5 := Lib.hid (rowU_new w5)
    have HF5 := Lib.hid (HFEW.out (w5.alloc (.cells #[] 55)))
    clear c5 b5 HP4 B4 S5
    go_wp2_with fail
    refine HF5.out.mono ?_
    rintro e wz ⟨rfl, hw⟩
    have hw := hw.symm
    subst hw
    clear HF5
    go_wp2_with (at_builtin; refine wpList_append_any _ rfl (.tmp 47) (.tmp 49) _ rfl w5.heap.size 55 i0 _ 1 4 Try.underlying24 hi hz0 hz1 hz2 rfl (by omega) (.slice (some ⟨w5.heap.size, 0, none⟩) 0 0) 0 [] rfl HZ5.out w5.heap.size a1 j1 cap1 (CU K) rfl (RD.out.alloc (Nat.le_refl _) _) (CU_one _) ?c2 ?c3 ?c4 ?_)
    case c2 => have := HJ1.out; unfold maxLen; omega
    case c3 => have := HJ1.out; omega
    case c4 => simp
    intro v1 w6 ho1 hg1 hb1
    have h6 : w6.ownsRow w5.heap.size 55 1 v1 j1 (CU K) := by simpa using ho1
    have b6 : Below w5.heap.size w5 w6 := ((Below.refl _ _).alloc (Nat.le_refl _) _).grown hg1 (by simp) (fun q hq => by have h' : some w5.heap.size = some q := hq; injection h' with h'; omega)
    obtain ⟨A1, c1, rfl⟩ := slice_form h6
    have HLIT : Hid (Reads (w6.alloc (.cells #[.int .u32 1, .int .u32 2, .int .u32 3, .int .u32 4, .int .u32 5] 55)) (w6.alloc (.cells #[.int .u32 1, .int .u32 2, .int .u32 3, .int .u32 4, .int .u32 5] 55)).heap.size 1 (some ⟨w6.heap.size, 0, none⟩) 5 (CU [1, 2, 3, 4, 5])) := ((Sq.lit w6 #[.int .u32 1, .int .u32 2, .int .u32 3, .int .u32 4, .int .u32 5] 55 5 5 rfl).st.reads).2
    have HOW := Lib.hid (own_below h6 ((Below.refl w6.heap.size w6).alloc (Nat.le_refl _) (.cells #[.int .u32 1, .int .u32 2, .int .u32 3, .int .u32 4, .int .u32 5] 55)))
    have HO6 := Lib.hid h6
    have B6 := Lib.hid b6
    have HSZ : Hid (lo ≤ w5.heap.size) := HP5.out.nil
    clear ho1 hg1 hb1 h6 b6 RD HZ5
    go_wp2_with (at_builtin; refine wpList_append_any _ rfl (.tmp 50) (.tmp 51) _ rfl w5.heap.size 55 i0 _ 1 4 Try.underlying24 hi hz0 hz1 hz2 rfl (by omega) (.slice A1 j1 c1) j1 (CU K) rfl HOW.out (w6.alloc (.cells #[.int .u32 1, .int .u32 2, .int .u32 3, .int .u32 4, .int .u32 5] 55)).heap.size (some ⟨w6.heap.size, 0, none⟩) 5 5 (CU [1, 2, 3, 4, 5]) rfl HLIT.out (CU_one _) ?d2 ?d3 ?d4 ?_)
    case d2 => have := HJ1.out; unfold maxLen; omega
    case d3 => have := HJ1.out; omega
    case d4 => have := B6.out.size; simp; omega
    intro v2 w7 ho2 hg2 hb2
    have h7 : w7.ownsRow w5.heap.size 55 1 v2 (j1 + 5) (CU (K ++ [1, 2, 3, 4, 5])) := by
      have h8 : CU (K ++ [1, 2, 3, 4, 5]) = CU K ++ CU [1, 2, 3, 4, 5] := by simp [CU]
      rw [h8]; exact ho2
    have b7 : Below w5.heap.size w5 w7 := (B6.out.trans (((Below.refl w6.heap.size w6).alloc (Nat.le_refl _) _).mono B6.out.size)).grown hg2 (by have := B6.out.size; simp; omega) (fun q hq => by
      have h9 := (Ow.of_own HO6.out).at_ q hq
      exact h9.1)
    obtain ⟨A2, c2, rfl⟩ := slice_form h7
    obtain ⟨KL, hKL⟩ : ∃ KL, K ++ [1, 2, 3, 4, 5] = KL := ⟨_, rfl⟩
    obtain ⟨n7, hn7⟩ : ∃ n7, j1 + 5 = n7 := ⟨_, rfl⟩
    have HKL : Hid (KL.length = n7 ∧ 5 ≤ n7) := by rw [← hKL]; refine ⟨?_, by omega⟩; have := HJ1.out; simp; omega
    rw [hKL, hn7] at h7
    have HP7 := Lib.hid (HP5.out.below b7)
    have C7 := Lib.hid (C5.out.below b7)
    have B7 : Hid (Below lo w w7) := B5.out.trans (b7.mono HSZ.out)
    have O7 : Hid (Sq w7 (fun b => w5.heap.size ≤ b) (.slice A2 n7 c2) n7 (CU KL)) := (Ow.of_own h7).sq
    have WB := Lib.hid (write_big lo p g n k has M st _ _ KL 5 w7 HP7.out ⟨by omega, by omega⟩ (by rw [HKL.out.1]; exact O7.out) (by have := HKL.out; have := HN4.out; omega))
    simp only [hn7]
    clear ho2 hg2 hb2 h7 b7 HOW HLIT HO6 B6 HP5 C5 B5 hKL hn7
    go_wp2_with fail
    refine WB.out.mono ?_
    rintro e wz ⟨rfl, hw⟩
    have hw := hw.symm
    subst hw
    clear WB
    go_wp2_with fail
    refine (write_bad g (-1 - q2) _ w7 (fun h => by have := h.1; have := HQ2.out; omega)).mono ?_
    rintro e wz ⟨rfl, hw⟩
    have hw := hw.symm
    subst hw
    go_wp2_with fail
    refine (write_bad g (1099511627777 + q2) _ w7 (fun h => by have := h.2; have := HQ2.out; omega)).mono ?_
    rintro e wz ⟨rfl, hw⟩
    have hw := hw.symm
    subst hw
    go_wp2_with fail
    refine (read_below lo p g n k has M st a2 w7 HP7.out).mono ?_
    rintro e w8 ⟨⟨r8, rfl⟩, b8⟩
    have HP8 := Lib.hid (HP7.out.below b8)
    have C8 := Lib.hid (C7.out.below b8)
    have B8 : Hid (Below lo w w8) := B7.out.trans (b8.mono HP7.out.nil)
    clear b8 HP7 C7 B7 O7
    go_wp2_with fail
    refine (read_bad g (-1) w8 (fun h => by have := h.1; omega)).mono ?_
    rintro e wz ⟨rfl, hw⟩
    have hw := hw.symm
    subst hw
    have SM := Lib.hid (same_any lo lo p q5 g g5 n n k k has has M M st st w8 HP8.out C8.out)
    go_wp2_with fail
    refine SM.out.mono ?_
    rintro e w9 ⟨he9, b9⟩
    simp only [and_self, decide_true, Bool.and_self] at he9
    subst he9
    have B9 : Hid (Below lo w w9) := B8.out.trans (b9.mono HP8.out.nil)
    clear b9 SM
    go_wp2_with fail
    go_ret
    exact ⟨rfl, B9.out⟩
end Go.Proofs.Ytmodkfboolmckaa.Sa
