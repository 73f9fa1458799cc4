/-
  SpanFar, the walk: for any beat and any four ints the Go text answers true, and writes nothing that was there. No conditions.
-/
import Derived.Test.YthcoldehpaambaaTells
import Derived.Test.YthcoldehpaambaaPlain
namespace Go.Proofs.Ythcoldehpaambaa
open Go.RowKit
set_option linter.unusedSimpArgs false

theorem of5 {W w1 : World} {p0 p1 p2 p3 p4 : Addr} {x0 x1 x2 x3 x4 : Value} (hB : Below W.heap.size W w1) (k0 : W.cell? p0 = some x0) (k1 : W.cell? p1 = some x1) (k2 : W.cell? p2 = some x2) (k3 : W.cell? p3 = some x3) (k4 : W.cell? p4 = some x4) :
    Below W.heap.size W w1 ∧ w1.cell? p0 = some x0 ∧ w1.cell? p1 = some x1 ∧ w1.cell? p2 = some x2 ∧ w1.cell? p3 = some x3 ∧ w1.cell? p4 = some x4 :=
  ⟨hB, cell_later hB k0, cell_later hB k1, cell_later hB k2, cell_later hB k3, cell_later hB k4⟩

set_option maxHeartbeats 800000 in
theorem busy_any (F E L s e : Int) (w : World) (h : Ok F E L) (hse : s ≤ e) (h0 : -2305843009213693952 ≤ s) (h1 : e ≤ 2305843009213693952) :
    Calls Try.prog 27 #[.agg #[.int .i64 F, .int .i64 E, .int .i64 L], .agg #[.int .i64 s, .int .i64 e]] w fun x w' => x = .returned (.int .i64 (beforeT F E L e - beforeT F E L s)) ∧ Below w.heap.size w w' := by
  have hm := before_mono h hse
  have hs := beforeT_bd s h
  have he := beforeT_bd e h
  obtain ⟨p, hp⟩ : ∃ p, Hid (beforeT F E L s = p) := ⟨_, rfl⟩
  obtain ⟨q, hq⟩ : ∃ q, Hid (beforeT F E L e = q) := ⟨_, rfl⟩
  rw [hp.out, hq.out] at hm
  rw [hp.out] at hs
  rw [hq.out] at he
  rw [hp.out, hq.out]
  have b0 : 0 ≤ p := hs.1
  have b1 : p ≤ q := by omega
  have b2 : q ≤ 4611686018427387904 := by have := h.f0; have := he.2.1; have := he.2.2; by_cases c : F ≤ e <;> omega
  obtain ⟨m1, m2⟩ := hm
  clear hs he
  go_enter Try.func27, Try.ntmps27
  go_wp2_with fail
  refine (valid_ok F E L _ h).mono ?_
  rintro _ w1 ⟨rfl, hb⟩
  have k0 := cell_later hb (a := ⟨w.heap.size, 0, none⟩) (v := .int .i64 F) (by simp [go_sem, World.cell?_alloc_past])
  have k1 := cell_later hb (a := ⟨w.heap.size, 1, none⟩) (v := .int .i64 E) (by simp [go_sem, World.cell?_alloc_past])
  have k2 := cell_later hb (a := ⟨w.heap.size, 2, none⟩) (v := .int .i64 L) (by simp [go_sem, World.cell?_alloc_past])
  have k3 := cell_later hb (a := ⟨w.heap.size + 1, 0, none⟩) (v := .int .i64 s) (by simp [go_sem, World.cell?_alloc_past])
  have k4 := cell_later hb (a := ⟨w.heap.size + 1, 1, none⟩) (v := .int .i64 e) (by simp [go_sem, World.cell?_alloc_past])
  have bel1 : Below w.heap.size w w1 := (((Below.refl _ _).alloc (Nat.le_refl _) _).alloc (by simp) _).trans (hb.mono (by simp; omega))
  clear hb
  by_cases hlt : e ≤ s
  · go_wp2_with fail
    go_ret
    obtain rfl : s = e := by omega
    exact ⟨int_ret (by have := hp.out; have := hq.out; omega), bel1⟩
  · have HE : Hid (∀ W, Calls Try.prog 30 #[.agg #[.int .i64 F, .int .i64 E, .int .i64 L], .int .i64 e] W fun x w' => x = .returned (.int .i64 q) ∧ Below W.heap.size W w') := fun W => by
      have := before_any F E L e W h (by omega); rwa [hq.out] at this
    have HS : Hid (∀ W, Calls Try.prog 30 #[.agg #[.int .i64 F, .int .i64 E, .int .i64 L], .int .i64 s] W fun x w' => x = .returned (.int .i64 p) ∧ Below W.heap.size W w') := fun W => by
      have := before_any F E L s W h (by omega); rwa [hp.out] at this
    have hw : IntKind.i64.wrap (q - p) = q - p := IntWalk.i64_in _ (by omega)
    go_wp2_with fail
    go_region_held3 (fun w' => Below w1.heap.size w1 w' ∧ w'.cell? ⟨w.heap.size, 0, none⟩ = some (.int .i64 F) ∧ w'.cell? ⟨w.heap.size, 1, none⟩ = some (.int .i64 E) ∧ w'.cell? ⟨w.heap.size, 2, none⟩ = some (.int .i64 L) ∧ w'.cell? ⟨w.heap.size + 1, 0, none⟩ = some (.int .i64 s) ∧ w'.cell? ⟨w.heap.size + 1, 1, none⟩ = some (.int .i64 e))
      (first | assumption | exact of5 (bstep hb rfl (by assumption)) k0 k1 k2 k3 k4 | exact of5 (Below.refl _ _).drew k0 k1 k2 k3 k4)
      (first | (go_at_call_of 30 (Value.int IntKind.i64 e); refine (HE.out _).mono ?_; rintro _ w3 ⟨rfl, hb⟩) | (go_at_call_of 30 (Value.int IntKind.i64 s); refine (HS.out _).mono ?_; rintro _ w3 ⟨rfl, hb⟩))
    rename_i hH
    go_wp2_with fail
    go_ret
    exact ⟨rfl, bel1.trans (hH.1.mono bel1.size)⟩

/-- The first k of the numbers are within what the statement speaks of. -/
structure InR (zs : List Int) (k : Nat) : Prop where
  all : ∀ i, i < k → -576460752303423488 ≤ zs.getD i 0 ∧ zs.getD i 0 ≤ 576460752303423488

set_option maxRecDepth 100000 in
set_option maxHeartbeats 8000000 in
theorem far_walk (F E L p q r y : Int) (w : World) :
    Calls Try.prog 8 #[.agg #[.int .i64 F, .int .i64 E, .int .i64 L], .int .i64 p, .int .i64 q, .int .i64 r, .int .i64 y] w fun x w' => x = .returned (.bool true) ∧ Below w.heap.size w w' := by
  go_enter Try.func8, Try.ntmps8
  go_wp2_with fail
  refine (speaks_any _).mono ?_
  rintro _ w1 ⟨rfl, hb⟩
  have k0 := cell_later hb (a := ⟨w.heap.size, 0, none⟩) (v := .int .i64 F) (by simp)
  have k1 := cell_later hb (a := ⟨w.heap.size, 1, none⟩) (v := .int .i64 E) (by simp)
  have k2 := cell_later hb (a := ⟨w.heap.size, 2, none⟩) (v := .int .i64 L) (by simp)
  have bel1 : Below w.heap.size w w1 := ((Below.refl _ _).alloc (Nat.le_refl _) _).trans (hb.mono (by simp))
  clear hb
  by_cases ha : Ok F E L
  case neg =>
    have HA := Lib.hid ha
    clear ha
    go_wp2_with fail
    refine (rcheck_no F E L _ HA.out).mono ?_
    rintro _ w2 ⟨rfl, hb⟩
    have bel2 := bel1.trans (hb.mono bel1.size)
    go_wp2_with fail
    refine (speaks_any _).mono ?_
    rintro _ w3 ⟨rfl, hb⟩
    go_wp2_with fail
    go_ret
    exact ⟨rfl, bel2.trans (hb.mono bel2.size)⟩
  have HA := Lib.hid ha
  clear ha
  go_wp2_with fail
  refine (rcheck_ok F E L _ HA.out).mono ?_
  rintro _ w2 ⟨rfl, hb⟩
  replace k0 := cell_later hb k0
  replace k1 := cell_later hb k1
  replace k2 := cell_later hb k2
  have bel2 := bel1.trans (hb.mono bel1.size)
  clear hb bel1
  by_cases hb : Ok y 1 1
  case neg =>
    have HB := Lib.hid hb
    clear hb
    go_wp2_with fail
    refine (rcheck_no y 1 1 _ HB.out).mono ?_
    rintro _ w3 ⟨rfl, hb⟩
    have bel3 := bel2.trans (hb.mono bel2.size)
    go_wp2_with fail
    refine (speaks_any _).mono ?_
    rintro _ w4 ⟨rfl, hb⟩
    go_wp2_with fail
    go_ret
    exact ⟨rfl, bel3.trans (hb.mono bel3.size)⟩
  have HB := Lib.hid hb
  clear hb
  go_wp2_with fail
  refine (rcheck_ok y 1 1 _ HB.out).mono ?_
  rintro _ w3 ⟨rfl, hb⟩
  replace k0 := cell_later hb k0
  replace k1 := cell_later hb k1
  replace k2 := cell_later hb k2
  have bel3 := bel2.trans (hb.mono bel2.size)
  clear hb bel2
  have hy := HB.out
  obtain ⟨y0, y1, _, _, _, _⟩ := hy
  have ha := HA.out
  obtain ⟨f0, f1, e0, e1, l0, l1⟩ := ha
  by_cases hs : 1099511627776 < F + y
  case pos =>
    go_wp2_with fail
    refine (speaks_any _).mono ?_
    rintro _ w4 ⟨rfl, hb⟩
    go_wp2_with fail
    go_ret
    exact ⟨rfl, bel3.trans (hb.mono bel3.size)⟩
  have HC : Hid (∀ i, i < 3 → (w3.alloc (.cells #[.int .i64 p, .int .i64 q, .int .i64 r] 3)).cell? ⟨w3.heap.size, i, none⟩ = some (.int .i64 ([p, q, r].getD i 0))) := fun i hi => by
    match i, hi with
    | 0, _ => simp
    | 1, _ => simp
    | 2, _ => simp
  obtain ⟨zs, hzs⟩ : ∃ zs : List Int, Hid (zs = [p, q, r]) := ⟨_, rfl⟩
  rw [← hzs.out] at HC
  go_wp2_with fail
  go_loop [43] (fun i => ∃ k : Nat, k ≤ 3 ∧ i = .int .i64 k ∧ InR zs k) (fun i => 3 - (intOf i).toNat)
  case atStart => exact ⟨0, by omega, rfl, ⟨fun i hi => by omega⟩⟩
  case round =>
    obtain ⟨k, hk, rfl, hin⟩ := hrel
    by_cases hlt : k < 3
    · have hcell := HC.out k hlt
      obtain ⟨z, hz⟩ : ∃ z, Hid (zs.getD k 0 = z) := ⟨_, rfl⟩
      rw [hz.out] at hcell
      by_cases c1 : 576460752303423488 < z
      · go_wp2_with fail
        go_ret
        exact ⟨rfl, bel3.alloc bel3.size _⟩
      · by_cases c2 : z < -576460752303423488
        · go_wp2_with fail
          go_ret
          exact ⟨rfl, bel3.alloc bel3.size _⟩
        · have hn : InR zs (k + 1) := ⟨fun i hi => by
            by_cases hik : i < k
            · exact hin.all i hik
            · obtain rfl : i = k := by omega
              rw [hz.out]; omega⟩
          go_wp2_with fail
          go_round
          case rel => exact ⟨k + 1, by omega, by go_num, hn⟩
          case measure => simp [intOf]; omega
    · obtain rfl : k = 3 := by omega
      have hi0 := hin.all 0 (by omega)
      have hi1 := hin.all 1 (by omega)
      have hi2 := hin.all 2 (by omega)
      rw [hzs.out] at hi0 hi1 hi2
      simp only [List.getD_cons_zero, List.getD_cons_succ] at hi0 hi1 hi2
      clear hin
      obtain ⟨p1, p2⟩ := hi0
      obtain ⟨q1, q2⟩ := hi1
      obtain ⟨r1, r2⟩ := hi2
      by_cases hsw : q < p
      · clear HC hzs
        replace k0 := cell_al (.cells #[.int .i64 p, .int .i64 q, .int .i64 r] 3) k0
        replace k1 := cell_al (.cells #[.int .i64 p, .int .i64 q, .int .i64 r] 3) k1
        replace k2 := cell_al (.cells #[.int .i64 p, .int .i64 q, .int .i64 r] 3) k2
        have bel4 : Below w.heap.size w w3 := bel3
        clear bel3
        obtain ⟨m1, hm1, m11, m12⟩ : ∃ m1, (if r < q then q else r) = m1 ∧ q ≤ m1 ∧ m1 ≤ 576460752303423488 := ⟨_, rfl, by split <;> omega, by split <;> omega⟩
        obtain ⟨ct, hct, ct1, ct2⟩ : ∃ ct, (if p < m1 then p else m1) = ct ∧ q ≤ ct ∧ ct ≤ p := ⟨_, rfl, by split <;> omega, by split <;> omega⟩
        have mon := before_mono HA.out (show q ≤ p by omega)
        obtain ⟨A, hA⟩ : ∃ A, Hid (beforeT F E L p - beforeT F E L q = A) := ⟨_, rfl⟩
        obtain ⟨A1, hA1⟩ : ∃ A1, Hid (beforeT F E L ct - beforeT F E L q = A1) := ⟨_, rfl⟩
        obtain ⟨A2, hA2⟩ : ∃ A2, Hid (beforeT F E L p - beforeT F E L ct = A2) := ⟨_, rfl⟩
        have s1 : A1 + A2 = A := by have := hA.out; have := hA1.out; have := hA2.out; omega
        rw [hA.out] at mon
        obtain ⟨mon1, mon2⟩ := mon
        have s2 : 0 ≤ A := by have := hA.out; omega
        clear mon1
        have OkY : Hid (Ok (F + y) E L) := ⟨by omega, by omega, e0, e1, l0, l1⟩
        have B1 : Hid (∀ W, Calls Try.prog 27 #[.agg #[.int .i64 F, .int .i64 E, .int .i64 L], .agg #[.int .i64 q, .int .i64 p]] W fun x w' => x = .returned (.int .i64 A) ∧ Below W.heap.size W w') := fun W => by
          have := busy_any F E L q p W HA.out (by omega) (by omega) (by omega)
          rwa [hA.out] at this
        have B2 : Hid (∀ W, Calls Try.prog 27 #[.agg #[.int .i64 F, .int .i64 E, .int .i64 L], .agg #[.int .i64 q, .int .i64 ct]] W fun x w' => x = .returned (.int .i64 A1) ∧ Below W.heap.size W w') := fun W => by
          have := busy_any F E L q ct W HA.out (by omega) (by omega) (by omega)
          rwa [hA1.out] at this
        have B3 : Hid (∀ W, Calls Try.prog 27 #[.agg #[.int .i64 F, .int .i64 E, .int .i64 L], .agg #[.int .i64 ct, .int .i64 p]] W fun x w' => x = .returned (.int .i64 A2) ∧ Below W.heap.size W w') := fun W => by
          have := busy_any F E L ct p W HA.out (by omega) (by omega) (by omega)
          rwa [hA2.out] at this
        have B4 : Hid (∀ W, Calls Try.prog 27 #[.agg #[.int .i64 (F + y), .int .i64 E, .int .i64 L], .agg #[.int .i64 (q + y), .int .i64 (p + y)]] W fun x w' => x = .returned (.int .i64 A) ∧ Below W.heap.size W w') := fun W => by
          have := busy_any (F + y) E L (q + y) (p + y) W OkY.out (by omega) (by omega) (by omega)
          rwa [before_shift, before_shift, hA.out] at this
        have wsum : IntKind.i64.wrap (A1 + A2) = A := by rw [s1]; exact IntWalk.i64_in _ (by omega)
        have wdif : IntKind.i64.wrap (p - q) = p - q := IntWalk.i64_in _ (by omega)
        have wlo : IntKind.i64.wrap (q + y) = q + y := IntWalk.i64_in _ (by omega)
        have whi : IntKind.i64.wrap (p + y) = p + y := IntWalk.i64_in _ (by omega)
        have dA : decide (A < 0) = false := by simp; omega
        have dB : decide (p - q < A) = false := by simp; omega
        have S1 := Lib.hid s1
        clear s1
        go_wp2_with fail
        refine (B1.out _).mono ?_
        rintro _ w5 ⟨rfl, hb⟩
        have x0 := cell_later hb (a := ⟨w3.heap.size + 1, 0, none⟩) (v := .int .i64 F) (by simp [go_sem, World.cell?_alloc_past])
        have x1 := cell_later hb (a := ⟨w3.heap.size + 1, 1, none⟩) (v := .int .i64 E) (by simp [go_sem, World.cell?_alloc_past])
        have x2 := cell_later hb (a := ⟨w3.heap.size + 1, 2, none⟩) (v := .int .i64 L) (by simp [go_sem, World.cell?_alloc_past])
        have x3 := cell_later hb (a := ⟨w3.heap.size + 1 + 1, 0, none⟩) (v := .int .i64 (F + y)) (by simp [go_sem, World.cell?_alloc_past])
        have x4 := cell_later hb (a := ⟨w3.heap.size + 1 + 1, 1, none⟩) (v := .int .i64 E) (by simp [go_sem, World.cell?_alloc_past])
        have x5 := cell_later hb (a := ⟨w3.heap.size + 1 + 1, 2, none⟩) (v := .int .i64 L) (by simp [go_sem, World.cell?_alloc_past])
        have bel5 : Below w.heap.size w w5 := (((bel4.alloc bel4.size _).alloc (by have := bel4.size; simp; omega) _).alloc (by have := bel4.size; simp; omega) _).trans (hb.mono (by have := bel4.size; simp; omega))
        replace k0 := cell_later hb (cell_al _ (cell_al _ k0))
        replace k1 := cell_later hb (cell_al _ (cell_al _ k1))
        replace k2 := cell_later hb (cell_al _ (cell_al _ k2))
        clear hb bel4
        go_upto_region 16 with fail
        go_cut [112] (fun s wx => s = .bool false ∧ Below w5.heap.size w5 wx)
        case first =>
          go_region_held3 (fun w' => Below w5.heap.size w5 w' ∧ w'.cell? ⟨w3.heap.size + 1, 0, none⟩ = some (.int .i64 F) ∧ w'.cell? ⟨w3.heap.size + 1, 1, none⟩ = some (.int .i64 E) ∧ w'.cell? ⟨w3.heap.size + 1, 2, none⟩ = some (.int .i64 L) ∧ w'.cell? ⟨w3.heap.size + 1 + 1, 0, none⟩ = some (.int .i64 (F + y)) ∧ w'.cell? ⟨w3.heap.size + 1 + 1, 1, none⟩ = some (.int .i64 E) ∧ w'.cell? ⟨w3.heap.size + 1 + 1, 2, none⟩ = some (.int .i64 L))
            (first | assumption | exact six_of (bstep hb rfl (by assumption)) x0 x1 x2 x3 x4 x5 | exact six_of (Below.refl _ _).drew x0 x1 x2 x3 x4 x5)
            (first | (go_at_call_of 27 (Value.agg #[Value.int IntKind.i64 q, Value.int IntKind.i64 ct]); refine (B2.out _).mono ?_; rintro _ w6 ⟨rfl, hb⟩) | (go_at_call_of 27 (Value.agg #[Value.int IntKind.i64 ct, Value.int IntKind.i64 p]); refine (B3.out _).mono ?_; rintro _ w6 ⟨rfl, hb⟩) | (go_at_call_of 27 (Value.agg #[Value.int IntKind.i64 (q + y), Value.int IntKind.i64 (p + y)]); refine (B4.out _).mono ?_; rintro _ w6 ⟨rfl, hb⟩))
          all_goals
            rename_i hH
            go_wp2_with fail
            go_meet
            exact ⟨rfl, hH.1⟩
        case rest =>
          obtain ⟨rfl, hbel⟩ := hcut
          clear wsum wdif wlo whi dA dB B1 B2 B3 B4 hm1 hct
          replace x0 := cell_later hbel x0
          replace x1 := cell_later hbel x1
          replace x2 := cell_later hbel x2
          replace x3 := cell_later hbel x3
          replace x4 := cell_later hbel x4
          replace x5 := cell_later hbel x5
          replace k0 := cell_later hbel k0
          replace k1 := cell_later hbel k1
          replace k2 := cell_later hbel k2
          replace bel5 := bel5.trans (hbel.mono bel5.size)
          clear hbel
          have ns := next_spec (F := F) (t := q) e0
          have nsh := next_shift F E q y
          obtain ⟨n, hn⟩ : ∃ n, Hid (nextT F E q = n) := ⟨_, rfl⟩
          rw [hn.out] at ns nsh
          have N1 : Hid (∀ W, Calls Try.prog 26 #[.agg #[.int .i64 F, .int .i64 E, .int .i64 L], .int .i64 q] W fun x w' => x = .returned (.int .i64 n) ∧ Below W.heap.size W w') := fun W => by
            have := next_any F E L q W HA.out (by omega)
            rwa [hn.out] at this
          have N2 : Hid (∀ W, Calls Try.prog 26 #[.agg #[.int .i64 (F + y), .int .i64 E, .int .i64 L], .int .i64 (q + y)] W fun x w' => x = .returned (.int .i64 (n + y)) ∧ Below W.heap.size W w') := fun W => by
            have := next_any (F + y) E L (q + y) W OkY.out (by omega)
            rwa [nsh] at this
          obtain ⟨n1, n2, n3, n4⟩ := ns
          clear nsh
          have n5 : n ≤ 1152921504606846976 := by omega
          go_wp2_with fail
          refine (N1.out _).mono ?_
          rintro _ w7 ⟨rfl, hb⟩
          replace x0 := cell_later hb x0
          replace x1 := cell_later hb x1
          replace x2 := cell_later hb x2
          replace x3 := cell_later hb x3
          replace x4 := cell_later hb x4
          replace x5 := cell_later hb x5
          replace k0 := cell_later hb k0
          replace k1 := cell_later hb k1
          replace k2 := cell_later hb k2
          have bel7 := bel5.trans (hb.mono bel5.size)
          clear hb bel5
          have n4' := Lib.hid n4
          clear n4
          by_cases c : n = F
          · have c' : (n == F) = true := by simp [c]
            have hc := Lib.hid c
            clear c
            go_wp2_with fail
            refine (N2.out _).mono ?_
            rintro _ w8 ⟨rfl, hb⟩
            go_wp2_with fail
            go_ret
            exact ⟨rfl, bel7.trans (hb.mono bel7.size)⟩
          · have c' : (n == F) = false := by simp [c]
            have d : n - E < q := by have := n4'.out; omega
            go_wp2_with fail
            refine (N2.out _).mono ?_
            rintro _ w8 ⟨rfl, hb⟩
            go_wp2_with fail
            go_ret
            exact ⟨rfl, bel7.trans (hb.mono bel7.size)⟩
      · clear HC hzs
        replace k0 := cell_al (.cells #[.int .i64 p, .int .i64 q, .int .i64 r] 3) k0
        replace k1 := cell_al (.cells #[.int .i64 p, .int .i64 q, .int .i64 r] 3) k1
        replace k2 := cell_al (.cells #[.int .i64 p, .int .i64 q, .int .i64 r] 3) k2
        have bel4 : Below w.heap.size w w3 := bel3
        clear bel3
        obtain ⟨m1, hm1, m11, m12⟩ : ∃ m1, (if r < p then p else r) = m1 ∧ p ≤ m1 ∧ m1 ≤ 576460752303423488 := ⟨_, rfl, by split <;> omega, by split <;> omega⟩
        obtain ⟨ct, hct, ct1, ct2⟩ : ∃ ct, (if q < m1 then q else m1) = ct ∧ p ≤ ct ∧ ct ≤ q := ⟨_, rfl, by split <;> omega, by split <;> omega⟩
        have mon := before_mono HA.out (show p ≤ q by omega)
        obtain ⟨A, hA⟩ : ∃ A, Hid (beforeT F E L q - beforeT F E L p = A) := ⟨_, rfl⟩
        obtain ⟨A1, hA1⟩ : ∃ A1, Hid (beforeT F E L ct - beforeT F E L p = A1) := ⟨_, rfl⟩
        obtain ⟨A2, hA2⟩ : ∃ A2, Hid (beforeT F E L q - beforeT F E L ct = A2) := ⟨_, rfl⟩
        have s1 : A1 + A2 = A := by have := hA.out; have := hA1.out; have := hA2.out; omega
        rw [hA.out] at mon
        obtain ⟨mon1, mon2⟩ := mon
        have s2 : 0 ≤ A := by have := hA.out; omega
        clear mon1
        have OkY : Hid (Ok (F + y) E L) := ⟨by omega, by omega, e0, e1, l0, l1⟩
        have B1 : Hid (∀ W, Calls Try.prog 27 #[.agg #[.int .i64 F, .int .i64 E, .int .i64 L], .agg #[.int .i64 p, .int .i64 q]] W fun x w' => x = .returned (.int .i64 A) ∧ Below W.heap.size W w') := fun W => by
          have := busy_any F E L p q W HA.out (by omega) (by omega) (by omega)
          rwa [hA.out] at this
        have B2 : Hid (∀ W, Calls Try.prog 27 #[.agg #[.int .i64 F, .int .i64 E, .int .i64 L], .agg #[.int .i64 p, .int .i64 ct]] W fun x w' => x = .returned (.int .i64 A1) ∧ Below W.heap.size W w') := fun W => by
          have := busy_any F E L p ct W HA.out (by omega) (by omega) (by omega)
          rwa [hA1.out] at this
        have B3 : Hid (∀ W, Calls Try.prog 27 #[.agg #[.int .i64 F, .int .i64 E, .int .i64 L], .agg #[.int .i64 ct, .int .i64 q]] W fun x w' => x = .returned (.int .i64 A2) ∧ Below W.heap.size W w') := fun W => by
          have := busy_any F E L ct q W HA.out (by omega) (by omega) (by omega)
          rwa [hA2.out] at this
        have B4 : Hid (∀ W, Calls Try.prog 27 #[.agg #[.int .i64 (F + y), .int .i64 E, .int .i64 L], .agg #[.int .i64 (p + y), .int .i64 (q + y)]] W fun x w' => x = .returned (.int .i64 A) ∧ Below W.heap.size W w') := fun W => by
          have := busy_any (F + y) E L (p + y) (q + y) W OkY.out (by omega) (by omega) (by omega)
          rwa [before_shift, before_shift, hA.out] at this
        have wsum : IntKind.i64.wrap (A1 + A2) = A := by rw [s1]; exact IntWalk.i64_in _ (by omega)
        have wdif : IntKind.i64.wrap (q - p) = q - p := IntWalk.i64_in _ (by omega)
        have wlo : IntKind.i64.wrap (p + y) = p + y := IntWalk.i64_in _ (by omega)
        have whi : IntKind.i64.wrap (q + y) = q + y := IntWalk.i64_in _ (by omega)
        have dA : decide (A < 0) = false := by simp; omega
        have dB : decide (q - p < A) = false := by simp; omega
        have S1 := Lib.hid s1
        clear s1
        go_wp2_with fail
        refine (B1.out _).mono ?_
        rintro _ w5 ⟨rfl, hb⟩
        have x0 := cell_later hb (a := ⟨w3.heap.size + 1, 0, none⟩) (v := .int .i64 F) (by simp [go_sem, World.cell?_alloc_past])
        have x1 := cell_later hb (a := ⟨w3.heap.size + 1, 1, none⟩) (v := .int .i64 E) (by simp [go_sem, World.cell?_alloc_past])
        have x2 := cell_later hb (a := ⟨w3.heap.size + 1, 2, none⟩) (v := .int .i64 L) (by simp [go_sem, World.cell?_alloc_past])
        have x3 := cell_later hb (a := ⟨w3.heap.size + 1 + 1, 0, none⟩) (v := .int .i64 (F + y)) (by simp [go_sem, World.cell?_alloc_past])
        have x4 := cell_later hb (a := ⟨w3.heap.size + 1 + 1, 1, none⟩) (v := .int .i64 E) (by simp [go_sem, World.cell?_alloc_past])
        have x5 := cell_later hb (a := ⟨w3.heap.size + 1 + 1, 2, none⟩) (v := .int .i64 L) (by simp [go_sem, World.cell?_alloc_past])
        have bel5 : Below w.heap.size w w5 := (((bel4.alloc bel4.size _).alloc (by have := bel4.size; simp; omega) _).alloc (by have := bel4.size; simp; omega) _).trans (hb.mono (by have := bel4.size; simp; omega))
        replace k0 := cell_later hb (cell_al _ (cell_al _ k0))
        replace k1 := cell_later hb (cell_al _ (cell_al _ k1))
        replace k2 := cell_later hb (cell_al _ (cell_al _ k2))
        clear hb bel4
        go_upto_region 16 with fail
        go_cut [112] (fun s wx => s = .bool false ∧ Below w5.heap.size w5 wx)
        case first =>
          go_region_held3 (fun w' => Below w5.heap.size w5 w' ∧ w'.cell? ⟨w3.heap.size + 1, 0, none⟩ = some (.int .i64 F) ∧ w'.cell? ⟨w3.heap.size + 1, 1, none⟩ = some (.int .i64 E) ∧ w'.cell? ⟨w3.heap.size + 1, 2, none⟩ = some (.int .i64 L) ∧ w'.cell? ⟨w3.heap.size + 1 + 1, 0, none⟩ = some (.int .i64 (F + y)) ∧ w'.cell? ⟨w3.heap.size + 1 + 1, 1, none⟩ = some (.int .i64 E) ∧ w'.cell? ⟨w3.heap.size + 1 + 1, 2, none⟩ = some (.int .i64 L))
            (first | assumption | exact six_of (bstep hb rfl (by assumption)) x0 x1 x2 x3 x4 x5 | exact six_of (Below.refl _ _).drew x0 x1 x2 x3 x4 x5)
            (first | (go_at_call_of 27 (Value.agg #[Value.int IntKind.i64 p, Value.int IntKind.i64 ct]); refine (B2.out _).mono ?_; rintro _ w6 ⟨rfl, hb⟩) | (go_at_call_of 27 (Value.agg #[Value.int IntKind.i64 ct, Value.int IntKind.i64 q]); refine (B3.out _).mono ?_; rintro _ w6 ⟨rfl, hb⟩) | (go_at_call_of 27 (Value.agg #[Value.int IntKind.i64 (p + y), Value.int IntKind.i64 (q + y)]); refine (B4.out _).mono ?_; rintro _ w6 ⟨rfl, hb⟩))
          all_goals
            rename_i hH
            go_wp2_with fail
            go_meet
            exact ⟨rfl, hH.1⟩
        case rest =>
          obtain ⟨rfl, hbel⟩ := hcut
          clear wsum wdif wlo whi dA dB B1 B2 B3 B4 hm1 hct
          replace x0 := cell_later hbel x0
          replace x1 := cell_later hbel x1
          replace x2 := cell_later hbel x2
          replace x3 := cell_later hbel x3
          replace x4 := cell_later hbel x4
          replace x5 := cell_later hbel x5
          replace k0 := cell_later hbel k0
          replace k1 := cell_later hbel k1
          replace k2 := cell_later hbel k2
          replace bel5 := bel5.trans (hbel.mono bel5.size)
          clear hbel
          have ns := next_spec (F := F) (t := p) e0
          have nsh := next_shift F E p y
          obtain ⟨n, hn⟩ : ∃ n, Hid (nextT F E p = n) := ⟨_, rfl⟩
          rw [hn.out] at ns nsh
          have N1 : Hid (∀ W, Calls Try.prog 26 #[.agg #[.int .i64 F, .int .i64 E, .int .i64 L], .int .i64 p] W fun x w' => x = .returned (.int .i64 n) ∧ Below W.heap.size W w') := fun W => by
            have := next_any F E L p W HA.out (by omega)
            rwa [hn.out] at this
          have N2 : Hid (∀ W, Calls Try.prog 26 #[.agg #[.int .i64 (F + y), .int .i64 E, .int .i64 L], .int .i64 (p + y)] W fun x w' => x = .returned (.int .i64 (n + y)) ∧ Below W.heap.size W w') := fun W => by
            have := next_any (F + y) E L (p + y) W OkY.out (by omega)
            rwa [nsh] at this
          obtain ⟨n1, n2, n3, n4⟩ := ns
          clear nsh
          have n5 : n ≤ 1152921504606846976 := by omega
          go_wp2_with fail
          refine (N1.out _).mono ?_
          rintro _ w7 ⟨rfl, hb⟩
          replace x0 := cell_later hb x0
          replace x1 := cell_later hb x1
          replace x2 := cell_later hb x2
          replace x3 := cell_later hb x3
          replace x4 := cell_later hb x4
          replace x5 := cell_later hb x5
          replace k0 := cell_later hb k0
          replace k1 := cell_later hb k1
          replace k2 := cell_later hb k2
          have bel7 := bel5.trans (hb.mono bel5.size)
          clear hb bel5
          have n4' := Lib.hid n4
          clear n4
          by_cases c : n = F
          · have c' : (n == F) = true := by simp [c]
            have hc := Lib.hid c
            clear c
            go_wp2_with fail
            refine (N2.out _).mono ?_
            rintro _ w8 ⟨rfl, hb⟩
            go_wp2_with fail
            go_ret
            exact ⟨rfl, bel7.trans (hb.mono bel7.size)⟩
          · have c' : (n == F) = false := by simp [c]
            have d : n - E < p := by have := n4'.out; omega
            go_wp2_with fail
            refine (N2.out _).mono ?_
            rintro _ w8 ⟨rfl, hb⟩
            go_wp2_with fail
            go_ret
            exact ⟨rfl, bel7.trans (hb.mono bel7.size)⟩
end Go.Proofs.Ythcoldehpaambaa
