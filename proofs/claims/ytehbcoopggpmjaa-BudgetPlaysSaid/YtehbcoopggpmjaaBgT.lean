/-
  The reference's Left. Each statement bears its own conditions.
-/
import Derived.Test.YtehbcoopggpmjaaBgS
namespace Go.Proofs.Ytehbcoopggpmjaa.Bg
open Go.RowKit Go.Proofs.Ytehbcoopggpmjaa.F
set_option linter.unusedVariables false
set_option linter.unusedSimpArgs false
structure LfR (Z q : Int) (L : List (Int × Int)) (w1 : World) (nv iv : Value) (wr : World) : Prop where
  ex : ∃ (j k : Nat), j ≤ L.length ∧ nv = .int .i64 (Z - sumQ q (L.take j)) ∧ iv = .int .i64 (j : Int) ∧ wr = w1.drewN k
set_option maxRecDepth 100000 in
set_option maxHeartbeats 16000000 in
theorem rleft_any (Z P F K U t : Int) (lv : Value) (L : List (Int × Int)) (p : Nat → Prop) (w : World) (h : Sv.ok ⟨Z, P, F, K, U⟩) (hr : RelS ⟨Z, P, F, K, U⟩ L) (hl : LV w p lv L) (hn : L.length ≤ 60) : Calls Try.prog 13 #[.agg #[.int .i64 Z, .int .i64 P, .int .i64 F, lv], .int .i64 t] w fun e w' => e = .returned (.int .i64 (leftV ⟨Z, P, F, K, U⟩ t)) ∧ Below w.heap.size w w' := by
  obtain ⟨X, hX⟩ : ∃ X, w.heap.size = X := ⟨_, rfl⟩
  obtain ⟨W0, hW0⟩ : ∃ W0, w.alloc (.cells #[.int .i64 Z, .int .i64 P, .int .i64 F, lv] 29) = W0 := ⟨_, rfl⟩
  have B0 : Hid (Below X w W0) := by rw [← hW0, ← hX]; exact (Below.refl _ _).alloc (Nat.le_refl _) _
  have HX0 : Hid (W0.heap[X]? = some (.cells #[.int .i64 Z, .int .i64 P, .int .i64 F, lv] 29 (0, 0))) := by rw [← hW0, ← hX]; exact heap_alloc_new _ _
  have S0 : Hid (W0.heap.size = X + 1) := by rw [← hW0, ← hX]; unfold Hid; simp
  obtain ⟨lf, hlf⟩ : ∃ x, leftV ⟨Z, P, F, K, U⟩ t = x := ⟨_, rfl⟩
  rw [hlf]
  have hl0 : LV W0 p lv L := hl.below (by rw [← hW0]; exact (Below.refl _ _).alloc (Nat.le_refl _) _)
  have CM := Lib.hid (rmay_any Z P F K U t lv L p W0 h hr hl0 hn)
  have x0 : W0.cell? ⟨X, 0, none⟩ = some (.int .i64 Z) := by rw [(row_cell HX0.out 0).1]; rfl
  have x1 : W0.cell? ⟨X, 1, none⟩ = some (.int .i64 P) := by rw [(row_cell HX0.out 1).1]; rfl
  have x2 : W0.cell? ⟨X, 2, none⟩ = some (.int .i64 F) := by rw [(row_cell HX0.out 2).1]; rfl
  have x3 : W0.cell? ⟨X, 3, none⟩ = some (lv) := by rw [(row_cell HX0.out 3).1]; rfl
  simp only [hX]
  obtain ⟨v, hv⟩ : ∃ x, decide (hasP ⟨Z, P, F, K, U⟩ t ∧ K ≤ whV ⟨Z, P, F, K, U⟩ t) = x := ⟨_, rfl⟩
  rw [hv] at CM
  go_enter Try.func13, Try.ntmps13
  go_wp2_with fail
  refine CM.out.mono ?_
  rintro e w1 ⟨rfl, hb⟩
  have HX1 : Hid (w1.heap[X]? = some (.cells #[.int .i64 Z, .int .i64 P, .int .i64 F, lv] 29 (0, 0))) := (hb.block X (by have := S0.out; omega)).trans HX0.out
  have B1 : Hid (Below X w w1) := B0.out.trans (hb.mono (by have := S0.out; omega))
  have S1 : Hid (X < w1.heap.size) := by have := hb.size; have := S0.out; unfold Hid; omega
  have hl1 : LV w1 p lv L := hl0.below hb
  clear hb CM x0 x1 x2 x3 hl hl0 hW0 HX0 B0 S0
  cases v with
  | false =>
    have HE : Hid (lf = 0) := by
      have hno : ¬ (hasP ⟨Z, P, F, K, U⟩ t ∧ K ≤ whV ⟨Z, P, F, K, U⟩ t) := of_decide_eq_false hv
      unfold Hid
      rw [← hlf]
      unfold leftV
      by_cases hh : hasP ⟨Z, P, F, K, U⟩ t
      · rw [if_neg (fun e => e hh), if_pos (show whV ⟨Z, P, F, K, U⟩ t < K by have : ¬ K ≤ whV ⟨Z, P, F, K, U⟩ t := fun e => hno ⟨hh, e⟩; omega)]
      · rw [if_pos hh]
    clear hlf hv hr h hl1 hn
    go_wp2_with fail
    go_ret
    exact ⟨by rw [HE.out]; rfl, B1.out⟩
  | true =>
    obtain ⟨hh, hk⟩ := of_decide_eq_true hv
    have HLF := Lib.hid (hr.left h hh hk)
    rw [hlf] at HLF
    have hle := hr.sum (whV ⟨Z, P, F, K, U⟩ t) hk
    have hus := h.us
    have hu0 := h.u0
    have hz1 := h.s1
    have hsp := h.sp
    have hpm := h.pm
    obtain ⟨f1, f2, f3, f4, f5, f6⟩ := wh_facts h hh
    obtain ⟨n1, n2, n3⟩ := next_facts h hh
    have f0 : 0 ≤ F := h.f0
    have h2 := hh.2
    have h1 := hh.1
    obtain ⟨q, hq⟩ : ∃ q, whV ⟨Z, P, F, K, U⟩ t = q := ⟨_, rfl⟩
    rw [hq] at f1 f2 f3 f4 f5 hle HLF
    simp only at f1 f2 f3 f4 f5 hus hu0 hz1 hsp hpm h1 h2 n2 n3 HLF
    have HPOS := Lib.hid hr.pos
    have hle2 : sumQ q L = if q = K then U else 0 := hle
    have HSM : Hid (sumQ q L ≤ Z) := by unfold Hid; rw [hle2]; split <;> omega
    have HZB : Hid (1 ≤ Z ∧ Z ≤ 1048576) := ⟨hz1, by omega⟩
    have HN60 := Lib.hid hn
    obtain ⟨nx, hnx⟩ : ∃ x, nextV ⟨Z, P, F, K, U⟩ t = x := ⟨_, rfl⟩
    have CN := fun W => rnext_any Z P F K U t lv W h
    rw [hnx] at CN n2 n3 HLF
    have HCN := Lib.hid CN
    have u1 : IntKind.i64.wrap (t - F) = t - F := by rw [IntKind.wrap_i64]; omega
    have u2 : (t - F).tdiv P = q := f5
    have u3 : IntKind.i64.wrap q = q := by rw [IntKind.wrap_i64]; omega
    have hP0 : ¬ P = 0 := by omega
    have u4 : IntKind.i64.wrap (nx - t) = nx - t := by rw [IntKind.wrap_i64]; omega
    have HU := Lib.hid (And.intro u1 (And.intro u2 (And.intro u3 (And.intro hP0 u4))))
    obtain ⟨A, c, rfl, hcell⟩ := hl1.ex
    have HCL := Lib.hid hcell
    clear hcell hl1 hlf hv hh hk hle hle2 hus hu0 hz1 hsp hpm f1 f2 f3 f4 f5 f6 n1 n2 n3 f0 h1 h2 hq hn CN hnx hr h u1 u2 u3 u4 hP0
    have x0 : w1.cell? ⟨X, 0, none⟩ = some (.int .i64 Z) := by rw [(row_cell HX1.out 0).1]; rfl
    have x1 : w1.cell? ⟨X, 1, none⟩ = some (.int .i64 P) := by rw [(row_cell HX1.out 1).1]; rfl
    have x2 : w1.cell? ⟨X, 2, none⟩ = some (.int .i64 F) := by rw [(row_cell HX1.out 2).1]; rfl
    have x3 : w1.cell? ⟨X, 3, none⟩ = some (.slice A L.length c) := by rw [(row_cell HX1.out 3).1]; rfl
    go_upto_block 0 with fail
    go_wp2_with fail
    go_loopw [5, 6] (fun nv iv wr => LfR Z q L w1 nv iv wr) (fun _ i _ => L.length - (intOf i).toNat)
    case atStart => exact ⟨⟨0, 0, Nat.zero_le _, by simp [sumQ], rfl, rfl⟩⟩
    case round =>
      obtain ⟨⟨j, kk, hj, rfl, rfl, rfl⟩⟩ := hrel
      obtain ⟨vr, hvr⟩ : ∃ W, w1.drewN kk = W := ⟨_, rfl⟩
      have HVR := Lib.hid hvr
      have bv : Below w1.heap.size w1 vr := by rw [← hvr]; exact below_drewN (Below.refl _ _) kk
      have x0 : vr.cell? ⟨X, 0, none⟩ = some (.int .i64 Z) := cell_later bv x0
      have x1 : vr.cell? ⟨X, 1, none⟩ = some (.int .i64 P) := cell_later bv x1
      have x2 : vr.cell? ⟨X, 2, none⟩ = some (.int .i64 F) := cell_later bv x2
      have x3 : vr.cell? ⟨X, 3, none⟩ = some (.slice A L.length c) := cell_later bv x3
      have BVR : Hid (Below X w vr) := B1.out.trans (bv.mono (Nat.le_of_lt S1.out))
      have SVR : Hid (X < vr.heap.size) := Nat.lt_of_lt_of_le S1.out bv.size
      rw [hvr]
      obtain ⟨n, hnl⟩ : ∃ n, L.length = n := ⟨_, rfl⟩
      obtain ⟨sj, hsj⟩ : ∃ x, sumQ q (L.take j) = x := ⟨_, rfl⟩
      have hsb := sumQ_take_le (fun c hc => (HPOS.out c hc).1) q j
      rw [hsj] at hsb ⊢
      rw [hnl] at x3 hj
      by_cases hlt : j < n
      rotate_left
      · have hjI : ¬ (j : Int) < (n : Int) := by omega
        have k0 : decide ((j : Int) < (n : Int)) = false := by simp only [hjI, decide_false]
        have hjn : j = n := by omega
        have hfull : sj = sumQ q L := by rw [← hsj, hjn, ← hnl, List.take_length]
        have HLF2 : Hid (lf = min (Z - sj) (nx - t)) := by unfold Hid; rw [hfull]; exact HLF.out
        have u4 := HU.out.2.2.2.2
        have cn1 := HCN.out
        rw [hnl] at cn1
        have CN1 := Lib.hid cn1
        clear hjn hlt hj hsj hfull hsb bv hvr hnl cn1
        go_wp2_with fail
        refine (CN1.out vr).mono ?_
        rintro e v2 ⟨rfl, hb⟩
        have y0 : v2.cell? ⟨X, 0, none⟩ = some (.int .i64 Z) := cell_later hb x0
        have y1 : v2.cell? ⟨X, 1, none⟩ = some (.int .i64 P) := cell_later hb x1
        have y2 : v2.cell? ⟨X, 2, none⟩ = some (.int .i64 F) := cell_later hb x2
        have y3 : v2.cell? ⟨X, 3, none⟩ = some (.slice A n c) := cell_later hb x3
        have B2 : Hid (Below X w v2) := BVR.out.trans (hb.mono (Nat.le_of_lt SVR.out))
        have S2 : Hid (X < v2.heap.size) := Nat.lt_of_lt_of_le SVR.out hb.size
        clear hb x0 x1 x2 x3
        by_cases hc : nx - t < Z - sj
        · have k1 : decide (nx - t < Z - sj) = true := by simp only [hc, decide_true]
          have HE : Hid (lf = nx - t) := by have := HLF2.out; unfold Hid; omega
          clear hc
          go_wp2_with fail
          refine (CN1.out v2).mono ?_
          rintro e v3 ⟨rfl, hb⟩
          have B3 : Hid (Below X w v3) := B2.out.trans (hb.mono (Nat.le_of_lt S2.out))
          clear hb y0 y1 y2 y3
          go_wp2_with fail
          go_ret
          exact ⟨by rw [HE.out]; rfl, B3.out⟩
        · have k1 : decide (nx - t < Z - sj) = false := by simp only [hc, decide_false]
          have HE : Hid (lf = Z - sj) := by have := HLF2.out; unfold Hid; omega
          clear hc
          go_wp2_with fail
          go_ret
          exact ⟨by rw [HE.out]; rfl, B2.out⟩
      have hjI : (j : Int) < (n : Int) := by omega
      have k0 : decide ((j : Int) < (n : Int)) = true := by simp only [hjI, decide_true]
      obtain ⟨b, off, rfl, hb, _, hcc⟩ := HCL.out (by omega)
      obtain ⟨d, hd⟩ : ∃ d, L[j]? = some d := ⟨_, List.getElem?_eq_getElem (by omega)⟩
      have cc := hcc j d hd
      have z0 : vr.cell? ⟨b, off + j * 2, none⟩ = some (.int .i64 d.1) := cell_later bv cc.1
      have z1 : vr.cell? ⟨b, off + j * 2 + 1, none⟩ = some (.int .i64 d.2) := cell_later bv cc.2
      have hst : sumQ q (L.take (j + 1)) = sj + (if d.1 = q then d.2 else 0) := by rw [take_step hd, sumQ_app, hsj]; simp [sumQ]
      have hsb2 := sumQ_take_le (fun c hc => (HPOS.out c hc).1) q (j + 1)
      rw [hst] at hsb2
      obtain ⟨d1, d2⟩ := d
      simp only at z0 z1 hst hsb2
      have HJ : Hid (j < L.length) := by unfold Hid; omega
      have HST := Lib.hid hst
      have u5 : d1 = q → IntKind.i64.wrap (Z - sj - d2) = Z - sj - d2 := fun e => by rw [if_pos e] at hsb2; have := HSM.out; have := HZB.out; rw [IntKind.wrap_i64]; omega
      obtain ⟨u1, u2, u3, hP0, _⟩ := HU.out
      have HU5 := Lib.hid u5
      have jb : (j : Int) ≤ 60 := by have := HN60.out; omega
      clear hst hsb2 cc hcc hd hb hlt hj hsj hsb bv hvr u5
      go_upto_region 7 with fail
      refine wp_region_held_drew (S := (fun w' => w'.cell? ⟨X, 1, none⟩ = some (.int .i64 P) ∧ w'.cell? ⟨X, 2, none⟩ = some (.int .i64 F) ∧ w'.cell? ⟨X, 3, none⟩ = some (.slice (some ⟨b, off, none⟩) n c) ∧ w'.cell? ⟨b, off + j * 2, none⟩ = some (.int .i64 d1))) (by kernel_rfl) ⟨x1, x2, x3, z0⟩ (fun hHeld => ?_)
      refine takeD (i := 0) (d := some 20) (v := ?_) _ rfl rfl (by kernel_rfl) (by kernel_rfl) (by kernel_rfl) (fun _ _ _ h => h) (by rfl) ?_ (by assumption) ?_
      rotate_left
      · (intro w hSw; (try dsimp only at hSw); go_simp) <;> with_reducible rfl
      try simp only [Act.put, List.setIfInBounds_toArray, List.set_cons_zero, List.set_cons_succ]
      refine takeD (i := 1) (d := some 21) (v := ?_) _ rfl rfl (by kernel_rfl) (by kernel_rfl) (by kernel_rfl) (fun _ _ _ h => h) (by rfl) ?_ (by assumption) ?_
      rotate_left
      · (intro w hSw; (try dsimp only at hSw); go_simp) <;> with_reducible rfl
      try simp only [Act.put, List.setIfInBounds_toArray, List.set_cons_zero, List.set_cons_succ]
      refine takeD (i := 2) (d := some 22) (v := ?_) _ rfl rfl (by kernel_rfl) (by kernel_rfl) (by kernel_rfl) (fun _ _ _ h => h) (by rfl) ?_ (by assumption) ?_
      rotate_left
      · (intro w hSw; (try dsimp only at hSw); go_simp) <;> with_reducible rfl
      try simp only [Act.put, List.setIfInBounds_toArray, List.set_cons_zero, List.set_cons_succ]
      refine takeD (i := 3) (d := some 23) (v := ?_) _ rfl rfl (by kernel_rfl) (by kernel_rfl) (by kernel_rfl) (fun _ _ _ h => h) (by rfl) ?_ (by assumption) ?_
      rotate_left
      · (intro w hSw; (try dsimp only at hSw); go_simp) <;> with_reducible rfl
      try simp only [Act.put, List.setIfInBounds_toArray, List.set_cons_zero, List.set_cons_succ]
      refine takeD (i := 4) (d := some 24) (v := ?_) _ rfl rfl (by kernel_rfl) (by kernel_rfl) (by kernel_rfl) (fun _ _ _ h => h) (by rfl) ?_ (by assumption) ?_
      rotate_left
      · (intro w hSw; (try dsimp only at hSw); go_simp) <;> with_reducible rfl
      try simp only [Act.put, List.setIfInBounds_toArray, List.set_cons_zero, List.set_cons_succ]
      refine takeD (i := 5) (d := some 25) (v := ?_) _ rfl rfl (by kernel_rfl) (by kernel_rfl) (by kernel_rfl) (fun _ _ _ h => h) (by rfl) ?_ (by assumption) ?_
      rotate_left
      · (intro w hSw; (try dsimp only at hSw); go_simp) <;> with_reducible rfl
      try simp only [Act.put, List.setIfInBounds_toArray, List.set_cons_zero, List.set_cons_succ]
      refine takeD (i := 6) (d := some 26) (v := ?_) _ rfl rfl (by kernel_rfl) (by kernel_rfl) (by kernel_rfl) (fun _ _ _ h => h) (by rfl) ?_ (by assumption) ?_
      rotate_left
      · (intro w hSw; (try dsimp only at hSw); go_simp) <;> with_reducible rfl
      try simp only [Act.put, List.setIfInBounds_toArray, List.set_cons_zero, List.set_cons_succ]
      refine takeD (i := 7) (d := some 27) (v := ?_) _ rfl rfl (by kernel_rfl) (by kernel_rfl) (by kernel_rfl) (fun _ _ _ h => h) (by rfl) ?_ (by assumption) ?_
      rotate_left
      · (intro w hSw; (try dsimp only at hSw); go_simp) <;> with_reducible rfl
      try simp only [Act.put, List.setIfInBounds_toArray, List.set_cons_zero, List.set_cons_succ]
      refine takeD (i := 8) (d := some 28) (v := ?_) _ rfl rfl (by kernel_rfl) (by kernel_rfl) (by kernel_rfl) (fun _ _ _ h => h) (by rfl) ?_ (by assumption) ?_
      rotate_left
      · (intro w hSw; (try dsimp only at hSw); go_simp) <;> with_reducible rfl
      try simp only [Act.put, List.setIfInBounds_toArray, List.set_cons_zero, List.set_cons_succ]
      refine takeD (i := 9) (d := some 29) (v := ?_) _ rfl rfl (by kernel_rfl) (by kernel_rfl) (by kernel_rfl) (fun _ _ _ h => h) (by rfl) ?_ (by assumption) ?_
      rotate_left
      · (intro w hSw; (try dsimp only at hSw); go_simp) <;> with_reducible rfl
      try simp only [Act.put, List.setIfInBounds_toArray, List.set_cons_zero, List.set_cons_succ]
      refine takeD (i := 10) (d := some 30) (v := ?_) _ rfl rfl (by kernel_rfl) (by kernel_rfl) (by kernel_rfl) (fun _ _ _ h => h) (by rfl) ?_ (by assumption) ?_
      rotate_left
      · (intro w hSw; (try dsimp only at hSw); go_simp) <;> with_reducible rfl
      try simp only [Act.put, List.setIfInBounds_toArray, List.set_cons_zero, List.set_cons_succ]
      refine takeD (i := 11) (d := some 31) (v := ?_) _ rfl rfl (by kernel_rfl) (by kernel_rfl) (by kernel_rfl) (fun _ _ _ h => h) (by rfl) ?_ (by assumption) ?_
      rotate_left
      · (intro w hSw; (try dsimp only at hSw); go_simp) <;> with_reducible rfl
      try simp only [Act.put, List.setIfInBounds_toArray, List.set_cons_zero, List.set_cons_succ]
      refine takeD (i := 12) (d := some 32) (v := ?_) _ rfl rfl (by kernel_rfl) (by kernel_rfl) (by kernel_rfl) (fun _ _ _ h => h) (by rfl) ?_ (by assumption) ?_
      rotate_left
      · (intro w hSw; (try dsimp only at hSw); go_simp) <;> with_reducible rfl
      try simp only [Act.put, List.setIfInBounds_toArray, List.set_cons_zero, List.set_cons_succ]
      refine takeD (i := 13) (d := some 33) (v := ?_) _ rfl rfl (by kernel_rfl) (by kernel_rfl) (by kernel_rfl) (fun _ _ _ h => h) (by rfl) ?_ (by assumption) ?_
      rotate_left
      · (intro w hSw; (try dsimp only at hSw); go_simp) <;> with_reducible rfl
      try simp only [Act.put, List.setIfInBounds_toArray, List.set_cons_zero, List.set_cons_succ]
      refine wpAnyH_done (by kernel_rfl) ?_ _
      obtain ⟨v2, hv2⟩ : ∃ W, vr.drew = W := ⟨_, rfl⟩
      have y3 : v2.cell? ⟨X, 3, none⟩ = some (.slice (some ⟨b, off, none⟩) n c) := by rw [← hv2]; exact x3
      have w1c : v2.cell? ⟨b, off + j * 2 + 1, none⟩ = some (.int .i64 d2) := by rw [← hv2]; exact z1
      have HV2 : Hid (v2 = w1.drewN (kk + 1)) := by rw [← hv2, ← HVR.out]; rfl
      simp only [hv2]
      clear hHeld hv2 x0 x1 x2 x3 z0 z1 u1 u2 u3 hP0
      by_cases hc : d1 = q
      · have k1 : (d1 == q) = true := by simpa using hc
        have u5 := HU5.out hc
        have HSN : Hid (sumQ q (L.take (j + 1)) = sj + d2) := by unfold Hid; rw [HST.out, if_pos hc]
        clear hc
        go_wp2_with fail
        have Q : LfR Z q L w1 (.int .i64 (Z - sj - d2)) (.int .i64 ((j : Int) + 1)) v2 := ⟨⟨j + 1, kk + 1, HJ.out, by rw [HSN.out, Int.sub_sub], by go_num, HV2.out⟩⟩
        refine ⟨Q, ?_⟩
        have := HJ.out
        simp [intOf]
        omega
      · have k1 : (d1 == q) = false := by simpa using hc
        have HSN : Hid (sumQ q (L.take (j + 1)) = sj) := by unfold Hid; rw [HST.out, if_neg hc]; omega
        clear hc
        go_wp2_with fail
        have Q : LfR Z q L w1 (.int .i64 (Z - sj)) (.int .i64 ((j : Int) + 1)) v2 := ⟨⟨j + 1, kk + 1, HJ.out, by rw [HSN.out], by go_num, HV2.out⟩⟩
        refine ⟨Q, ?_⟩
        have := HJ.out
        simp [intOf]
        omega
end Go.Proofs.Ytehbcoopggpmjaa.Bg
