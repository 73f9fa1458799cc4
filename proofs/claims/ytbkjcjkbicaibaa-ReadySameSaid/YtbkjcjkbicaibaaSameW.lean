/-
  The walk of ReadySame. Each statement bears its own conditions.
-/
import Derived.Test.YtbkjcjkbicaibaaS3
import Derived.Test.YtbkjcjkbicaibaaPlays
namespace Go.Proofs.Ytbkjcjkbicaibaa
open Go.RowKit Go.ChangeShapes Go.WideShapes Go.ChangeAt
set_option linter.unusedVariables false
set_option linter.unusedSimpArgs false
theorem low5 (x : Int) : ∃ u κ : Nat, IntKind.u64.wrap x = (u : Int) ∧ (u : Int) % 5 = (κ : Int) ∧ ((u : Int).tmod 5) = (κ : Int) ∧ κ < 5 ∧ IntKind.i64.wrap (κ : Int) = (κ : Int) := by
  refine ⟨(x % 18446744073709551616).toNat, (x % 18446744073709551616).toNat % 5, ?_, ?_, ?_, ?_, ?_⟩
  · rw [wrap_u64']; omega
  · omega
  · rw [Int.tmod_eq_emod_of_nonneg (by omega)]; omega
  · omega
  · rw [IntKind.wrap_i64]; omega
structure S1Rel (n gx gy gz : Nat) (ry : Nat → Nat) (w : World) (v5 v8 v10 : Value) (wr : World) : Prop where
  ex : ∃ (j : Nat) (rx : Nat → Nat) (X : Nat → List Int) (rz : Nat → Nat) (Z : Nat → List Int) (A : Option Addr) (k c : Nat), j ≤ n ∧ v10 = .int .i64 (j : Int) ∧ v5 = .pointer (some ⟨gx, 0, none⟩) ∧ v8 = .slice A k c ∧ S3 w gx gy gz rx ry rz X (fun _ => []) Z A k c none 0 0 wr ∧ k ≤ j ∧ flP Z = flP X
structure S2Rel (n gx gy gz : Nat) (rx : Nat → Nat) (X : Nat → List Int) (A : Option Addr) (k c : Nat) (rz : Nat → Nat) (Z : Nat → List Int) (w : World) (v6 v9 v13 : Value) (wr : World) : Prop where
  ex : ∃ (j : Nat) (ry : Nat → Nat) (Y : Nat → List Int) (A' : Option Addr) (k' c' : Nat), j ≤ n ∧ v13 = .int .i64 (j : Int) ∧ v6 = .pointer (some ⟨gy, 0, none⟩) ∧ v9 = .slice A' k' c' ∧ S3 w gx gy gz rx ry rz X Y Z A k c A' k' c' wr ∧ k' ≤ j
structure LqRel (m m' : List (Int × Int)) (k : Nat) (w : World) (v16 v17 : Value) (wr : World) : Prop where
  ex : ∃ (i : Nat) (s : Bool), i ≤ k ∧ v17 = .int .i64 (i : Int) ∧ v16 = .bool s ∧ ((s = true ∧ m.length = m'.length ∧ m.take i = m'.take i) ∨ (s = false ∧ m ≠ m')) ∧ Below w.heap.size w wr
set_option maxRecDepth 100000 in
set_option maxHeartbeats 16000000 in
theorem same_walk (a : Option Addr) (len cap : Nat) (a' : Option Addr) (len' cap' : Nat) (w : World) (h0 : ActRow w a len) (hlen : len ≤ maxLen) (h0' : ActRow w a' len') (hlen' : len' ≤ maxLen) :
    Calls Try.prog 6 #[.slice a len cap, .slice a' len' cap'] w fun e w' => e = .returned (.bool true) ∧ Below w.heap.size w w' := by
  have HACT := Lib.hid h0
  have HACT' := Lib.hid h0'
  clear h0 hlen h0' hlen'
  have he : ∀ (x : Nat) (w : World), (binOp .eql 23 (.pointer (some ⟨x, 0, none⟩)) (.pointer none)).run Try.prog w = .ok (.bool false) w := fun _ _ => rfl
  go_enter Try.func6, Try.ntmps6
  go_wp2_with fail
  refine (new_any w).mono ?_
  rintro e w1 ⟨rfl, l1, b1⟩
  obtain ⟨gx, hgx⟩ : ∃ g, w.heap.size = g := ⟨_, rfl⟩
  obtain ⟨rx0, hrx⟩ : ∃ r : Nat → Nat, (fun _ : Nat => w.heap.size) = r := ⟨_, rfl⟩
  have RX : Hid (∀ p, rx0 p = gx) := by unfold Hid; rw [← hrx, ← hgx]; exact fun _ => rfl
  have GX : Hid (w.heap.size ≤ gx) := by unfold Hid; omega
  rw [hrx, hgx] at l1
  have L1 := Lib.hid l1
  have B1 := Lib.hid b1
  rw [hgx]
  clear l1 b1 hrx hgx
  go_wp2_with fail
  refine (new_any w1).mono ?_
  rintro e w2 ⟨rfl, l2, b2⟩
  obtain ⟨gy, hgy⟩ : ∃ g, w1.heap.size = g := ⟨_, rfl⟩
  obtain ⟨ry, hry⟩ : ∃ r : Nat → Nat, (fun _ : Nat => w1.heap.size) = r := ⟨_, rfl⟩
  have RY : Hid (∀ p, ry p = gy) := by unfold Hid; rw [← hry, ← hgy]; exact fun _ => rfl
  have GY : Hid (gx < gy) := by unfold Hid; have := L1.out.lt; omega
  rw [hry, hgy] at l2
  have L2 := Lib.hid l2
  have L1' := Lib.hid (L1.out.below b2)
  have B2 := Lib.hid (B1.out.trans (b2.mono B1.out.size))
  rw [hgy]
  clear l2 b2 hry hgy L1 B1
  go_wp2_with fail
  refine (new_any w2).mono ?_
  rintro e w3 ⟨rfl, l3, b3⟩
  obtain ⟨gz, hgz⟩ : ∃ g, w2.heap.size = g := ⟨_, rfl⟩
  obtain ⟨rz0, hrz⟩ : ∃ r : Nat → Nat, (fun _ : Nat => w2.heap.size) = r := ⟨_, rfl⟩
  have RZ : Hid (∀ p, rz0 p = gz) := by unfold Hid; rw [← hrz, ← hgz]; exact fun _ => rfl
  have GZ : Hid (gy < gz) := by unfold Hid; have := L2.out.lt; omega
  rw [hrz, hgz] at l3
  have H3 : Hid (S3 w gx gy gz rx0 ry rz0 (fun _ => []) (fun _ => []) (fun _ => []) none 0 0 none 0 0 w3) := by
    have gx := GX.out; have gy := GY.out; have gz := GZ.out
    have rx := RX.out; have ry := RY.out; have rz := RZ.out
    have bb := B2.out.trans (b3.mono B2.out.size)
    refine ⟨⟨L1'.out.below b3, Okk.start, ⟨gx, fun p _ => by rw [rx]; exact gx⟩, ⟨by rw [fl_nil]; rfl, fun h => by omega⟩, by rw [fl_nil]; rfl, Nat.le_refl _, fun ad e => (by cases e), bb⟩,
      ⟨L2.out.below b3, Okk.start, ⟨by omega, fun p _ => by rw [ry]; omega⟩, ⟨by rw [fl_nil]; rfl, fun h => by omega⟩, by rw [fl_nil]; rfl, Nat.le_refl _, fun ad e => (by cases e), bb⟩,
      l3, Okk.start, ⟨by omega, fun p _ => by rw [rz]; omega⟩, ⟨by omega, fun q _ => by rw [rx]; omega, fun p _ => by rw [ry]; omega, fun p q _ _ => by rw [ry, rx]; omega⟩,
      ⟨by omega, fun q _ => by rw [rx]; omega, fun p _ => by rw [rz]; omega, fun p q _ _ => by rw [rz, rx]; omega⟩, ⟨by omega, fun q _ => by rw [ry]; omega, fun p _ => by rw [rz]; omega, fun p q _ _ => by rw [rz, ry]; omega⟩,
      fun ad e => (by cases e), fun ad e => (by cases e), fun ad e => (by cases e), fun ad e => (by cases e)⟩
  rw [hgz]
  clear l3 b3 hrz hgz L1' L2 B2 RX RY RZ GX GY GZ
  go_wp2_with fail
  --N
  obtain ⟨n, hn⟩ : ∃ n : Nat, min len 40 = n := ⟨_, rfl⟩
  have HN : Hid (n ≤ len ∧ n ≤ 40 ∧ (n = len ∨ n = 40)) := by unfold Hid; omega
  clear hn
  go_loopw [5, 8, 10] (fun v5 v8 v10 wr => S1Rel n gx gy gz ry w v5 v8 v10 wr) (fun _ _ v => fun _ => 1001 - (intOf v).toNat)
  case atStart => exact ⟨⟨0, rx0, _, rz0, _, none, 0, 0, Nat.zero_le _, rfl, rfl, rfl, H3.out, Nat.le_refl _, rfl⟩⟩
  case round =>
    clear H3
    obtain ⟨⟨j, rx, X, rz, Z, A, k, c, hj, rfl, rfl, rfl, hd, hk, hz⟩⟩ := hrel
    have HD := Lib.hid hd
    have HK := Lib.hid hk
    have HJ := Lib.hid hj
    have HZE := Lib.hid hz
    clear hd hk hj hz
    by_cases hlt : j < n
    · skip
      obtain ⟨b, off, Kf, Mf, Tf, rfl, hc⟩ := HACT.out (by have := HN.out; omega)
      obtain ⟨c0, c1, c2⟩ := hc j (by have := HN.out; omega)
      obtain ⟨K, hK⟩ : ∃ x, Kf j = x := ⟨_, rfl⟩
      obtain ⟨M, hM⟩ : ∃ x, Mf j = x := ⟨_, rfl⟩
      obtain ⟨T, hT⟩ : ∃ x, Tf j = x := ⟨_, rfl⟩
      rw [hK] at c0
      rw [hM] at c1
      rw [hT] at c2
      have d0 := cell_later HD.out.dx.bel c0
      have d1 := cell_later HD.out.dx.bel c1
      have d2 := cell_later HD.out.dx.bel c2
      have hjl : (j : Int) < (len : Int) := by have := HN.out; omega
      have hj60 : (j : Int) < 40 := by have := HN.out; omega
      have hj2 : (j : Int) < 1000 := by omega
      have HX : Hid (j < n) := hlt
      obtain ⟨uk, κ, hk0, hk1, hk2, hk3, hk4⟩ := low5 K
      have HK5 : Hid (κ < 5) := hk3
      clear hc hK hM hT c0 c1 c2 hlt hk3
      have H1 := Lib.hid (HD.out.below ((Below.refl _ _).alloc (Nat.le_refl _) (.cells #[.int .i64 (κ : Int), .int .i64 M, .int .i64 T] 29)))
      have KB := Lib.hid (Kb.new wr (κ : Int) M T)
      have NAB : Hid (wr.heap.size ≠ gx ∧ ∀ p, p < 64 → wr.heap.size ≠ rx p) := ⟨by have := HD.out.dx.lf.lt; omega, fun p hp => by have := HD.out.dx.lf.rlt hp; omega⟩
      have SMZ : Hid (∀ p, p < 64 → (Z p).length ≤ 900) := fun p hp => by
        have h1 := line_le Z hp
        rw [HZE.out, HD.out.dx.len] at h1
        have := HK.out; have := HJ.out; have := HN.out; omega
      go_wp2_with fail
      refine (do2_any gx rx X A k c (κ : Int) M T w _ H1.out.dx (by have := HK.out; have := HJ.out; have := HN.out; omega) κ rfl HK5.out).mono ?_
      rintro e w2 ⟨A2, k2, c2, rx2, X2, rfl, dd, hk2', dn, rr⟩
      have H2 := Lib.hid (H1.out.x dd dn)
      have RR := Lib.hid rr
      have HK2 : Hid (k2 ≤ j + 1) := by unfold Hid; have := HK.out; omega
      have KB2 : Hid (Kb w2 wr.heap.size (κ : Int) M T) := by
        have hb := dn.ch.block wr.heap.size (World.block_lt_of_cell? _ _ KB.out.d0) NAB.out.1 NAB.out.2
        exact ⟨(World.cell?_of_block (a := ⟨wr.heap.size, 0, none⟩) hb).trans KB.out.d0, (World.cell?_of_block (a := ⟨wr.heap.size, 1, none⟩) hb).trans KB.out.d1, (World.cell?_of_block (a := ⟨wr.heap.size, 2, none⟩) hb).trans KB.out.d2⟩
      have HKC : κ = 0 ∨ κ = 1 ∨ κ = 2 ∨ κ = 3 ∨ κ = 4 := by have := HK5.out; omega
      clear dd hk2' dn rr H1 KB HD d0 d1 d2 hk0 hk1 hk2 hk4
      rcases HKC with hκ | hκ | hκ | hκ | hκ
      · subst hκ
        have d0 : w2.cell? ⟨wr.heap.size, 0, none⟩ = some (.int .i64 0) := KB2.out.d0
        have d1 := KB2.out.d1
        have d2 := KB2.out.d2
        go_wp2_with fail
        --A0
        refine (put_any gz rz Z M T w2 H2.out.lz (fun p hp => by have := SMZ.out p hp; omega)).mono ?_
        rintro e w3 ⟨r3, rfl, n3⟩
        have HZ : Hid (flP (putL Z M T) = flP X2 ∧ Okk (putL Z M T)) := by
          have := RR.out
          rw [← HZE.out] at this
          exact ⟨(rr_put this).symm, H2.out.kz.put M T⟩
        have H3 := Lib.hid (H2.out.z n3 HZ.out.2)
        obtain ⟨Z3, hZ3⟩ : ∃ Z3, putL Z M T = Z3 := ⟨_, rfl⟩
        rw [hZ3] at H3 HZ
        clear hZ3 n3
        clear H2 KB2 d0 d1 d2
        go_wp2_with fail
        go_roundw
        case rel =>
          have Q : S1Rel n gx gy gz ry w (.pointer (some ⟨gx, 0, none⟩)) (.slice A2 k2 c2) (.int .i64 ((j : Int) + 1)) w3 := ⟨⟨j + 1, rx2, X2, r3, Z3, A2, k2, c2, HX.out, by go_num, rfl, rfl, H3.out, HK2.out, HZ.out.1⟩⟩
          first | exact Q | ((repeat apply Exists.intro); exact ⟨Q, rfl⟩)
        case measure => have := HX.out; have := HN.out; simp [intOf]; omega
      · subst hκ
        have d0 : w2.cell? ⟨wr.heap.size, 0, none⟩ = some (.int .i64 1) := KB2.out.d0
        have d1 := KB2.out.d1
        have d2 := KB2.out.d2
        go_wp2_with fail
        --A1
        refine (front_any gz rz Z M T w2 H2.out.lz (fun p hp => by have := SMZ.out p hp; omega)).mono ?_
        rintro e w3 ⟨r3, rfl, n3⟩
        have HZ : Hid (flP (frontL Z M T) = flP X2 ∧ Okk (frontL Z M T)) := by
          have := RR.out
          rw [← HZE.out] at this
          exact ⟨(rr_front this).symm, H2.out.kz.front M T⟩
        have H3 := Lib.hid (H2.out.z n3 HZ.out.2)
        obtain ⟨Z3, hZ3⟩ : ∃ Z3, frontL Z M T = Z3 := ⟨_, rfl⟩
        rw [hZ3] at H3 HZ
        clear hZ3 n3
        clear H2 KB2 d0 d1 d2
        go_wp2_with fail
        go_roundw
        case rel =>
          have Q : S1Rel n gx gy gz ry w (.pointer (some ⟨gx, 0, none⟩)) (.slice A2 k2 c2) (.int .i64 ((j : Int) + 1)) w3 := ⟨⟨j + 1, rx2, X2, r3, Z3, A2, k2, c2, HX.out, by go_num, rfl, rfl, H3.out, HK2.out, HZ.out.1⟩⟩
          first | exact Q | ((repeat apply Exists.intro); exact ⟨Q, rfl⟩)
        case measure => have := HX.out; have := HN.out; simp [intOf]; omega
      · subst hκ
        have d0 : w2.cell? ⟨wr.heap.size, 0, none⟩ = some (.int .i64 2) := KB2.out.d0
        have d1 := KB2.out.d1
        have d2 := KB2.out.d2
        go_wp2_with fail
        --A2
        refine (take_any gz rz Z w2 H2.out.lz (fun p hp => by have := SMZ.out p hp; omega)).mono ?_
        rintro e w3 ⟨xz, okz, Z3, rfl, td, n3⟩
        have HZ : Hid (flP Z3 = flP X2 ∧ Okk Z3) := by
          have := RR.out
          rw [← HZE.out] at this
          have := rr_take H2.out.kz this td
          exact ⟨this.1.symm, this.2⟩
        have H3 := Lib.hid (H2.out.z n3 HZ.out.2)
        clear td n3
        clear H2 KB2 d0 d1 d2
        go_wp2_with fail
        go_roundw
        case rel =>
          have Q : S1Rel n gx gy gz ry w (.pointer (some ⟨gx, 0, none⟩)) (.slice A2 k2 c2) (.int .i64 ((j : Int) + 1)) w3 := ⟨⟨j + 1, rx2, X2, rz, Z3, A2, k2, c2, HX.out, by go_num, rfl, rfl, H3.out, HK2.out, HZ.out.1⟩⟩
          first | exact Q | ((repeat apply Exists.intro); exact ⟨Q, rfl⟩)
        case measure => have := HX.out; have := HN.out; simp [intOf]; omega
      · subst hκ
        have d0 : w2.cell? ⟨wr.heap.size, 0, none⟩ = some (.int .i64 3) := KB2.out.d0
        have d1 := KB2.out.d1
        have d2 := KB2.out.d2
        go_wp2_with fail
        --A3
        refine (drop_any gz rz Z M w2 H2.out.lz (fun p hp => by have := SMZ.out p hp; omega)).mono ?_
        rintro e w3 ⟨okz, Z3, rfl, td, n3⟩
        have HZ : Hid (flP Z3 = flP X2 ∧ Okk Z3) := by
          have := RR.out
          rw [← HZE.out] at this
          have := rr_drop H2.out.kz this td
          exact ⟨this.1.symm, this.2⟩
        have H3 := Lib.hid (H2.out.z n3 HZ.out.2)
        clear td n3
        clear H2 KB2 d0 d1 d2
        go_wp2_with fail
        go_roundw
        case rel =>
          have Q : S1Rel n gx gy gz ry w (.pointer (some ⟨gx, 0, none⟩)) (.slice A2 k2 c2) (.int .i64 ((j : Int) + 1)) w3 := ⟨⟨j + 1, rx2, X2, rz, Z3, A2, k2, c2, HX.out, by go_num, rfl, rfl, H3.out, HK2.out, HZ.out.1⟩⟩
          first | exact Q | ((repeat apply Exists.intro); exact ⟨Q, rfl⟩)
        case measure => have := HX.out; have := HN.out; simp [intOf]; omega
      · subst hκ
        have d0 : w2.cell? ⟨wr.heap.size, 0, none⟩ = some (.int .i64 4) := KB2.out.d0
        have d1 := KB2.out.d1
        have d2 := KB2.out.d2
        go_wp2_with fail
        --A4
        refine (change_any gz rz Z M T w2 H2.out.lz (fun p hp => by have := SMZ.out p hp; omega)).mono ?_
        rintro e w3 ⟨okz, Z3, r3, rfl, td, n3⟩
        have HZ : Hid (flP Z3 = flP X2 ∧ Okk Z3) := by
          have := RR.out
          rw [← HZE.out] at this
          have := rr_change H2.out.kz this td
          exact ⟨this.1.symm, this.2⟩
        have H3 := Lib.hid (H2.out.z n3 HZ.out.2)
        clear td n3
        clear H2 KB2 d0 d1 d2
        go_wp2_with fail
        go_roundw
        case rel =>
          have Q : S1Rel n gx gy gz ry w (.pointer (some ⟨gx, 0, none⟩)) (.slice A2 k2 c2) (.int .i64 ((j : Int) + 1)) w3 := ⟨⟨j + 1, rx2, X2, r3, Z3, A2, k2, c2, HX.out, by go_num, rfl, rfl, H3.out, HK2.out, HZ.out.1⟩⟩
          first | exact Q | ((repeat apply Exists.intro); exact ⟨Q, rfl⟩)
        case measure => have := HX.out; have := HN.out; simp [intOf]; omega
    · have hjn : j = n := by have := HJ.out; omega
      subst hjn
      clear hlt
      obtain ⟨n', hn'⟩ : ∃ n : Nat, min len' 40 = n := ⟨_, rfl⟩
      have HN' : Hid (n' ≤ len' ∧ n' ≤ 40 ∧ (n' = len' ∨ n' = 40)) := by unfold Hid; omega
      clear hn'
      have HK40 : Hid (k ≤ 40) := by unfold Hid; have := HK.out; have := HN.out; omega
      by_cases hkl : (j : Int) < (len : Int)
      · have hk60 : ¬ (j : Int) < 40 := by have := HN.out; omega
        have hk60B : decide ((j : Int) < 40) = false := by rw [decide_eq_false_iff_not]; exact hk60
        go_wp2_with fail
        --L2
        go_loopw [6, 9, 13] (fun v6 v9 v13 wx => S2Rel n' gx gy gz rx X A k c rz Z w v6 v9 v13 wx) (fun _ _ v => fun _ => 1001 - (intOf v).toNat)
        case atStart => exact ⟨⟨0, ry, _, none, 0, 0, Nat.zero_le _, rfl, rfl, rfl, HD.out, Nat.le_refl _⟩⟩
        case round =>
          clear HD HK HJ HN
          obtain ⟨⟨j, ry, Y, A', k', c', hj, rfl, rfl, rfl, hd, hk⟩⟩ := hrel
          have HD := Lib.hid hd
          have HK := Lib.hid hk
          have HJ := Lib.hid hj
          clear hd hk hj
          by_cases hlt : j < n'
          · skip
            obtain ⟨b, off, Kf, Mf, Tf, rfl, hc⟩ := HACT'.out (by have := HN'.out; omega)
            obtain ⟨c0, c1, c2⟩ := hc j (by have := HN'.out; omega)
            obtain ⟨K, hK⟩ : ∃ x, Kf j = x := ⟨_, rfl⟩
            obtain ⟨M, hM⟩ : ∃ x, Mf j = x := ⟨_, rfl⟩
            obtain ⟨T, hT⟩ : ∃ x, Tf j = x := ⟨_, rfl⟩
            rw [hK] at c0
            rw [hM] at c1
            rw [hT] at c2
            have d0 := cell_later HD.out.dx.bel c0
            have d1 := cell_later HD.out.dx.bel c1
            have d2 := cell_later HD.out.dx.bel c2
            have hjl : (j : Int) < (len' : Int) := by have := HN'.out; omega
            have hj60 : (j : Int) < 40 := by have := HN'.out; omega
            have hj2 : (j : Int) < 1000 := by omega
            have HX : Hid (j < n') := hlt
            obtain ⟨uk, κ, hk0, hk1, hk2, hk3, hk4⟩ := low5 K
            have HK5 : Hid (κ < 5) := hk3
            clear hc hK hM hT c0 c1 c2 hlt hk3
            have H1 := Lib.hid (HD.out.below ((Below.refl _ _).alloc (Nat.le_refl _) (.cells #[.int .i64 (κ : Int), .int .i64 M, .int .i64 T] 29)))
            go_wp2_with fail
            refine (do2_any gy ry Y A' k' c' (κ : Int) M T w _ H1.out.dy (by have := HK.out; have := HJ.out; have := HN'.out; omega) κ rfl HK5.out).mono ?_
            rintro e w2 ⟨A2, k2, c2, ry2, Y2, rfl, dd, hk2', dn, rr⟩
            have H2 := Lib.hid (H1.out.y dd dn)
            have HK2 : Hid (k2 ≤ j + 1) := by unfold Hid; have := HK.out; omega
            clear dd hk2' dn rr H1 HD d0 d1 d2 hk0 hk1 hk2 hk4
            go_wp2_with fail
            go_roundw
            case rel =>
              have Q : S2Rel n' gx gy gz rx X A k c rz Z w (.pointer (some ⟨gy, 0, none⟩)) (.slice A2 k2 c2) (.int .i64 ((j : Int) + 1)) w2 := ⟨⟨j + 1, ry2, Y2, A2, k2, c2, HX.out, by go_num, rfl, rfl, H2.out, HK2.out⟩⟩
              first | exact Q | ((repeat apply Exists.intro); exact ⟨Q, rfl⟩)
            case measure => have := HX.out; have := HN'.out; simp [intOf]; omega
          · have hjn : j = n' := by have := HJ.out; omega
            subst hjn
            clear hlt
            have HK41 : Hid (k' ≤ 40) := by unfold Hid; have := HK.out; have := HN'.out; omega
            have D3 := Lib.hid HD.out
            clear HD
            by_cases hkl2 : (j : Int) < (len' : Int)
            · have hk61 : ¬ (j : Int) < 40 := by have := HN'.out; omega
              have hk61B : decide ((j : Int) < 40) = false := by rw [decide_eq_false_iff_not]; exact hk61
              have HZE' := Lib.hid HZE.out
              have SMX : Hid (Sm X) := fun p hp => by
                have h1 := line_le X hp
                rw [D3.out.dx.len] at h1
                have := HK40.out; omega
              have SMY : Hid (Sm Y) := fun p hp => by
                have h1 := line_le Y hp
                rw [D3.out.dy.len] at h1
                have := HK41.out; omega
              have SMZ : Hid (Sm Z) := fun p hp => by
                have h1 := line_le Z hp
                rw [HZE.out, D3.out.dx.len] at h1
                have := HK40.out; omega
              have EXZ : Hid (eqL X Z = true) := by unfold Hid; rw [eqL_fl]; exact decide_eq_true HZE.out.symm
              obtain ⟨s0, hs0⟩ : ∃ s0, ((k : Int) == (k' : Int)) = s0 := ⟨_, rfl⟩
              have HS0 := Lib.hid hs0
              go_wp2_with fail
              --L3
              clear hs0
              obtain ⟨wS, hwS⟩ : ∃ wS, wS = wr := ⟨_, rfl⟩
              subst hwS
              go_loopw [16, 17] (fun v16 v17 wx => LqRel (flP X) (flP Y) k wS v16 v17 wx) (fun _ v => fun _ => 1001 - (intOf v).toNat)
              case atStart =>
                refine ⟨⟨0, s0, Nat.zero_le _, rfl, rfl, ?_, Below.refl _ _⟩⟩
                have h1 := HS0.out
                have lx := D3.out.dx.len
                have ly := D3.out.dy.len
                cases s0
                · rw [beq_eq_false_iff_ne] at h1
                  exact .inr ⟨rfl, fun e => h1 (by rw [← lx, ← ly, e])⟩
                · rw [beq_iff_eq] at h1
                  exact .inl ⟨rfl, by omega, by simp⟩
              case round =>
                obtain ⟨⟨i, s, hi, rfl, rfl, hcase, hb⟩⟩ := hrel
                have HB := Lib.hid hb
                have HI := Lib.hid hi
                have D4 := Lib.hid (D3.out.below hb)
                clear hb hi
                rcases hcase with ⟨rfl, hlen, htk⟩ | ⟨rfl, hne⟩
                · have HLEN := Lib.hid hlen
                  have HTK := Lib.hid htk
                  clear hlen htk
                  by_cases hik : i < k
                  · obtain ⟨b1, o1, rfl, _, lx, hc1⟩ := place_p D4.out.dx.rd (by omega)
                    have ly := D4.out.dy.len
                    have hkk : k = k' := by have := HLEN.out; omega
                    obtain ⟨b2, o2, rfl, _, _, hc2⟩ := place_p D4.out.dy.rd (by omega)
                    obtain ⟨d0, d1⟩ := hc1 i hik
                    obtain ⟨e0, e1⟩ := hc2 i (by omega)
                    obtain ⟨⟨x, q⟩, hx⟩ : ∃ y, (flP X).getD i (0, 0) = y := ⟨_, rfl⟩
                    obtain ⟨⟨y, r⟩, hy⟩ : ∃ y, (flP Y).getD i (0, 0) = y := ⟨_, rfl⟩
                    rw [hx] at d0 d1
                    rw [hy] at e0 e1
                    have HXX := Lib.hid hx
                    have HYY := Lib.hid hy
                    have HLL : Hid (i < (flP X).length ∧ i < (flP Y).length) := ⟨by omega, by omega⟩
                    have hiI : (i : Int) < (k : Int) := by omega
                    have hiI2 : (i : Int) < (k' : Int) := by omega
                    have hik2 : i < k' := by omega
                    have hi2 : (i : Int) < 1000 := by have := HK40.out; omega
                    have HLT : Hid (i < k) := hik
                    clear hc1 hc2 hx hy lx ly hkk
                    by_cases h1 : x = y
                    · by_cases h2 : q = r
                      · have HT2 : Hid ((flP X).take (i + 1) = (flP Y).take (i + 1)) := by
                          unfold Hid
                          rw [take_getP HLL.out.1, take_getP HLL.out.2, HTK.out, HXX.out, HYY.out, h1, h2]
                        subst h1
                        subst h2
                        go_wp2_with fail
                        refine wp_region_held_drew (S := (fun w' => Below wr.heap.size wr w' ∧ w'.cell? ⟨b1, o1 + i * 2, none⟩ = some (.int .i64 x) ∧ w'.cell? ⟨b1, o1 + i * 2 + 1, none⟩ = some (.int .i64 q) ∧ w'.cell? ⟨b2, o2 + i * 2, none⟩ = some (.int .i64 x) ∧ w'.cell? ⟨b2, o2 + i * 2 + 1, none⟩ = some (.int .i64 q))) (by kernel_rfl) ?_ (fun hHeld => ?_)
                        · exact ⟨(Below.refl _ _).drew, d0, d1, e0, e1⟩
                        refine takeD (i := 0) (d := some 141) (v := ?_) _ rfl rfl (by kernel_rfl) (by kernel_rfl) (by kernel_rfl) (fun _ _ _ h => h) (by rfl) ?_ (by assumption) ?_
                        rotate_left
                        · (intro w hSw; (try dsimp only at hSw); go_simp) <;> with_reducible rfl
                        try simp only [Act.put, List.setIfInBounds_toArray, List.set_cons_zero, List.set_cons_succ]
                        refine takeD (i := 1) (d := some 142) (v := ?_) _ rfl rfl (by kernel_rfl) (by kernel_rfl) (by kernel_rfl) (fun _ _ _ h => h) (by rfl) ?_ (by assumption) ?_
                        rotate_left
                        · (intro w hSw; (try dsimp only at hSw); go_simp) <;> with_reducible rfl
                        try simp only [Act.put, List.setIfInBounds_toArray, List.set_cons_zero, List.set_cons_succ]
                        refine takeD (i := 2) (d := some 143) (v := ?_) _ rfl rfl (by kernel_rfl) (by kernel_rfl) (by kernel_rfl) (fun _ _ _ h => h) (by rfl) ?_ (by assumption) ?_
                        rotate_left
                        · (intro w hSw; (try dsimp only at hSw); go_simp) <;> with_reducible rfl
                        try simp only [Act.put, List.setIfInBounds_toArray, List.set_cons_zero, List.set_cons_succ]
                        refine takeD (i := 3) (d := some 144) (v := ?_) _ rfl rfl (by kernel_rfl) (by kernel_rfl) (by kernel_rfl) (fun _ _ _ h => h) (by rfl) ?_ (by assumption) ?_
                        rotate_left
                        · (intro w hSw; (try dsimp only at hSw); go_simp) <;> with_reducible rfl
                        try simp only [Act.put, List.setIfInBounds_toArray, List.set_cons_zero, List.set_cons_succ]
                        refine takeD (i := 4) (d := some 145) (v := ?_) _ rfl rfl (by kernel_rfl) (by kernel_rfl) (by kernel_rfl) (fun _ _ _ h => h) (by rfl) ?_ (by assumption) ?_
                        rotate_left
                        · (intro w hSw; (try dsimp only at hSw); go_simp) <;> with_reducible rfl
                        try simp only [Act.put, List.setIfInBounds_toArray, List.set_cons_zero, List.set_cons_succ]
                        refine takeD (i := 5) (d := some 146) (v := ?_) _ rfl rfl (by kernel_rfl) (by kernel_rfl) (by kernel_rfl) (fun _ _ _ h => h) (by rfl) ?_ (by assumption) ?_
                        rotate_left
                        · (intro w hSw; (try dsimp only at hSw); go_simp) <;> with_reducible rfl
                        try simp only [Act.put, List.setIfInBounds_toArray, List.set_cons_zero, List.set_cons_succ]
                        refine takeD (i := 6) (d := some 147) (v := ?_) _ rfl rfl (by kernel_rfl) (by kernel_rfl) (by kernel_rfl) (fun _ _ _ h => h) (by rfl) ?_ (by assumption) ?_
                        rotate_left
                        · (intro w hSw; (try dsimp only at hSw); go_simp) <;> with_reducible rfl
                        try simp only [Act.put, List.setIfInBounds_toArray, List.set_cons_zero, List.set_cons_succ]
                        refine takeD (i := 7) (d := some 148) (v := ?_) _ rfl rfl (by kernel_rfl) (by kernel_rfl) (by kernel_rfl) (fun _ _ _ h => h) (by rfl) ?_ (by assumption) ?_
                        rotate_left
                        · (intro w hSw; (try dsimp only at hSw); go_simp) <;> with_reducible rfl
                        try simp only [Act.put, List.setIfInBounds_toArray, List.set_cons_zero, List.set_cons_succ]
                        refine takeD (i := 8) (d := some 149) (v := ?_) _ rfl rfl (by kernel_rfl) (by kernel_rfl) (by kernel_rfl) (fun _ _ _ h => h) (by rfl) ?_ (by assumption) ?_
                        rotate_left
                        · (intro w hSw; (try dsimp only at hSw); go_simp) <;> with_reducible rfl
                        try simp only [Act.put, List.setIfInBounds_toArray, List.set_cons_zero, List.set_cons_succ]
                        refine takeD (i := 9) (d := some 16) (v := ?_) _ rfl rfl (by kernel_rfl) (by kernel_rfl) (by kernel_rfl) (fun _ _ _ h => h) (by rfl) ?_ (by assumption) ?_
                        rotate_left
                        · (intro w hSw; (try dsimp only at hSw); go_simp) <;> with_reducible rfl
                        try simp only [Act.put, List.setIfInBounds_toArray, List.set_cons_zero, List.set_cons_succ]
                        refine wpAnyH_done (by kernel_rfl) ?_ _
                        have HB2 := Lib.hid (HB.out.trans (hHeld.1.mono HB.out.size))
                        clear hHeld
                        go_wp2_with fail
                        go_roundw
                        case rel =>
                          have Q : LqRel (flP X) (flP Y) k wS (.bool true) (.int .i64 ((i : Int) + 1)) wr.drew := ⟨⟨i + 1, true, HLT.out, by go_num, rfl, .inl ⟨rfl, HLEN.out, HT2.out⟩, HB2.out⟩⟩
                          first | exact Q | ((repeat apply Exists.intro); exact ⟨Q, rfl⟩)
                        case measure => have := HLT.out; have := HK40.out; simp [intOf]; omega
                      · have HNE : Hid (flP X ≠ flP Y) := fun e => by
                          have h3 := HXX.out
                          rw [e, HYY.out] at h3
                          injection h3 with _ h4
                          exact h2 h4.symm
                        subst h1
                        go_wp2_with fail
                        refine wp_region_held_drew (S := (fun w' => Below wr.heap.size wr w' ∧ w'.cell? ⟨b1, o1 + i * 2, none⟩ = some (.int .i64 x) ∧ w'.cell? ⟨b1, o1 + i * 2 + 1, none⟩ = some (.int .i64 q) ∧ w'.cell? ⟨b2, o2 + i * 2, none⟩ = some (.int .i64 x) ∧ w'.cell? ⟨b2, o2 + i * 2 + 1, none⟩ = some (.int .i64 r))) (by kernel_rfl) ?_ (fun hHeld => ?_)
                        · exact ⟨(Below.refl _ _).drew, d0, d1, e0, e1⟩
                        refine takeD (i := 0) (d := some 141) (v := ?_) _ rfl rfl (by kernel_rfl) (by kernel_rfl) (by kernel_rfl) (fun _ _ _ h => h) (by rfl) ?_ (by assumption) ?_
                        rotate_left
                        · (intro w hSw; (try dsimp only at hSw); go_simp) <;> with_reducible rfl
                        try simp only [Act.put, List.setIfInBounds_toArray, List.set_cons_zero, List.set_cons_succ]
                        refine takeD (i := 1) (d := some 142) (v := ?_) _ rfl rfl (by kernel_rfl) (by kernel_rfl) (by kernel_rfl) (fun _ _ _ h => h) (by rfl) ?_ (by assumption) ?_
                        rotate_left
                        · (intro w hSw; (try dsimp only at hSw); go_simp) <;> with_reducible rfl
                        try simp only [Act.put, List.setIfInBounds_toArray, List.set_cons_zero, List.set_cons_succ]
                        refine takeD (i := 2) (d := some 143) (v := ?_) _ rfl rfl (by kernel_rfl) (by kernel_rfl) (by kernel_rfl) (fun _ _ _ h => h) (by rfl) ?_ (by assumption) ?_
                        rotate_left
                        · (intro w hSw; (try dsimp only at hSw); go_simp) <;> with_reducible rfl
                        try simp only [Act.put, List.setIfInBounds_toArray, List.set_cons_zero, List.set_cons_succ]
                        refine takeD (i := 3) (d := some 144) (v := ?_) _ rfl rfl (by kernel_rfl) (by kernel_rfl) (by kernel_rfl) (fun _ _ _ h => h) (by rfl) ?_ (by assumption) ?_
                        rotate_left
                        · (intro w hSw; (try dsimp only at hSw); go_simp) <;> with_reducible rfl
                        try simp only [Act.put, List.setIfInBounds_toArray, List.set_cons_zero, List.set_cons_succ]
                        refine takeD (i := 4) (d := some 145) (v := ?_) _ rfl rfl (by kernel_rfl) (by kernel_rfl) (by kernel_rfl) (fun _ _ _ h => h) (by rfl) ?_ (by assumption) ?_
                        rotate_left
                        · (intro w hSw; (try dsimp only at hSw); go_simp) <;> with_reducible rfl
                        try simp only [Act.put, List.setIfInBounds_toArray, List.set_cons_zero, List.set_cons_succ]
                        refine takeD (i := 5) (d := some 146) (v := ?_) _ rfl rfl (by kernel_rfl) (by kernel_rfl) (by kernel_rfl) (fun _ _ _ h => h) (by rfl) ?_ (by assumption) ?_
                        rotate_left
                        · (intro w hSw; (try dsimp only at hSw); go_simp) <;> with_reducible rfl
                        try simp only [Act.put, List.setIfInBounds_toArray, List.set_cons_zero, List.set_cons_succ]
                        refine takeD (i := 6) (d := some 147) (v := ?_) _ rfl rfl (by kernel_rfl) (by kernel_rfl) (by kernel_rfl) (fun _ _ _ h => h) (by rfl) ?_ (by assumption) ?_
                        rotate_left
                        · (intro w hSw; (try dsimp only at hSw); go_simp) <;> with_reducible rfl
                        try simp only [Act.put, List.setIfInBounds_toArray, List.set_cons_zero, List.set_cons_succ]
                        refine takeD (i := 7) (d := some 148) (v := ?_) _ rfl rfl (by kernel_rfl) (by kernel_rfl) (by kernel_rfl) (fun _ _ _ h => h) (by rfl) ?_ (by assumption) ?_
                        rotate_left
                        · (intro w hSw; (try dsimp only at hSw); go_simp) <;> with_reducible rfl
                        try simp only [Act.put, List.setIfInBounds_toArray, List.set_cons_zero, List.set_cons_succ]
                        refine takeD (i := 8) (d := some 149) (v := ?_) _ rfl rfl (by kernel_rfl) (by kernel_rfl) (by kernel_rfl) (fun _ _ _ h => h) (by rfl) ?_ (by assumption) ?_
                        rotate_left
                        · (intro w hSw; (try dsimp only at hSw); go_simp) <;> with_reducible rfl
                        try simp only [Act.put, List.setIfInBounds_toArray, List.set_cons_zero, List.set_cons_succ]
                        refine takeD (i := 9) (d := some 16) (v := ?_) _ rfl rfl (by kernel_rfl) (by kernel_rfl) (by kernel_rfl) (fun _ _ _ h => h) (by rfl) ?_ (by assumption) ?_
                        rotate_left
                        · (intro w hSw; (try dsimp only at hSw); go_simp) <;> with_reducible rfl
                        try simp only [Act.put, List.setIfInBounds_toArray, List.set_cons_zero, List.set_cons_succ]
                        refine wpAnyH_done (by kernel_rfl) ?_ _
                        have HB2 := Lib.hid (HB.out.trans (hHeld.1.mono HB.out.size))
                        clear hHeld
                        go_wp2_with fail
                        go_roundw
                        case rel =>
                          have Q : LqRel (flP X) (flP Y) k wS (.bool false) (.int .i64 ((i : Int) + 1)) wr.drew := ⟨⟨i + 1, false, HLT.out, by go_num, rfl, .inr ⟨rfl, HNE.out⟩, HB2.out⟩⟩
                          first | exact Q | ((repeat apply Exists.intro); exact ⟨Q, rfl⟩)
                        case measure => have := HLT.out; have := HK40.out; simp [intOf]; omega
                    · have HNE : Hid (flP X ≠ flP Y) := fun e => by
                        have h3 := HXX.out
                        rw [e, HYY.out] at h3
                        injection h3 with h4 _
                        exact h1 h4.symm
                      go_wp2_with fail
                      refine wp_region_held_drew (S := (fun w' => Below wr.heap.size wr w' ∧ w'.cell? ⟨b1, o1 + i * 2, none⟩ = some (.int .i64 x) ∧ w'.cell? ⟨b1, o1 + i * 2 + 1, none⟩ = some (.int .i64 q) ∧ w'.cell? ⟨b2, o2 + i * 2, none⟩ = some (.int .i64 y) ∧ w'.cell? ⟨b2, o2 + i * 2 + 1, none⟩ = some (.int .i64 r))) (by kernel_rfl) ?_ (fun hHeld => ?_)
                      · exact ⟨(Below.refl _ _).drew, d0, d1, e0, e1⟩
                      refine takeD (i := 0) (d := some 141) (v := ?_) _ rfl rfl (by kernel_rfl) (by kernel_rfl) (by kernel_rfl) (fun _ _ _ h => h) (by rfl) ?_ (by assumption) ?_
                      rotate_left
                      · (intro w hSw; (try dsimp only at hSw); go_simp) <;> with_reducible rfl
                      try simp only [Act.put, List.setIfInBounds_toArray, List.set_cons_zero, List.set_cons_succ]
                      refine takeD (i := 1) (d := some 142) (v := ?_) _ rfl rfl (by kernel_rfl) (by kernel_rfl) (by kernel_rfl) (fun _ _ _ h => h) (by rfl) ?_ (by assumption) ?_
                      rotate_left
                      · (intro w hSw; (try dsimp only at hSw); go_simp) <;> with_reducible rfl
                      try simp only [Act.put, List.setIfInBounds_toArray, List.set_cons_zero, List.set_cons_succ]
                      refine takeD (i := 2) (d := some 143) (v := ?_) _ rfl rfl (by kernel_rfl) (by kernel_rfl) (by kernel_rfl) (fun _ _ _ h => h) (by rfl) ?_ (by assumption) ?_
                      rotate_left
                      · (intro w hSw; (try dsimp only at hSw); go_simp) <;> with_reducible rfl
                      try simp only [Act.put, List.setIfInBounds_toArray, List.set_cons_zero, List.set_cons_succ]
                      refine takeD (i := 3) (d := some 144) (v := ?_) _ rfl rfl (by kernel_rfl) (by kernel_rfl) (by kernel_rfl) (fun _ _ _ h => h) (by rfl) ?_ (by assumption) ?_
                      rotate_left
                      · (intro w hSw; (try dsimp only at hSw); go_simp) <;> with_reducible rfl
                      try simp only [Act.put, List.setIfInBounds_toArray, List.set_cons_zero, List.set_cons_succ]
                      refine takeD (i := 4) (d := some 145) (v := ?_) _ rfl rfl (by kernel_rfl) (by kernel_rfl) (by kernel_rfl) (fun _ _ _ h => h) (by rfl) ?_ (by assumption) ?_
                      rotate_left
                      · (intro w hSw; (try dsimp only at hSw); go_simp) <;> with_reducible rfl
                      try simp only [Act.put, List.setIfInBounds_toArray, List.set_cons_zero, List.set_cons_succ]
                      refine takeD (i := 5) (d := some 146) (v := ?_) _ rfl rfl (by kernel_rfl) (by kernel_rfl) (by kernel_rfl) (fun _ _ _ h => h) (by rfl) ?_ (by assumption) ?_
                      rotate_left
                      · (intro w hSw; (try dsimp only at hSw); go_simp) <;> with_reducible rfl
                      try simp only [Act.put, List.setIfInBounds_toArray, List.set_cons_zero, List.set_cons_succ]
                      refine takeD (i := 6) (d := some 147) (v := ?_) _ rfl rfl (by kernel_rfl) (by kernel_rfl) (by kernel_rfl) (fun _ _ _ h => h) (by rfl) ?_ (by assumption) ?_
                      rotate_left
                      · (intro w hSw; (try dsimp only at hSw); go_simp) <;> with_reducible rfl
                      try simp only [Act.put, List.setIfInBounds_toArray, List.set_cons_zero, List.set_cons_succ]
                      refine takeD (i := 7) (d := some 148) (v := ?_) _ rfl rfl (by kernel_rfl) (by kernel_rfl) (by kernel_rfl) (fun _ _ _ h => h) (by rfl) ?_ (by assumption) ?_
                      rotate_left
                      · (intro w hSw; (try dsimp only at hSw); go_simp) <;> with_reducible rfl
                      try simp only [Act.put, List.setIfInBounds_toArray, List.set_cons_zero, List.set_cons_succ]
                      refine takeD (i := 8) (d := some 149) (v := ?_) _ rfl rfl (by kernel_rfl) (by kernel_rfl) (by kernel_rfl) (fun _ _ _ h => h) (by rfl) ?_ (by assumption) ?_
                      rotate_left
                      · (intro w hSw; (try dsimp only at hSw); go_simp) <;> with_reducible rfl
                      try simp only [Act.put, List.setIfInBounds_toArray, List.set_cons_zero, List.set_cons_succ]
                      refine takeD (i := 9) (d := some 16) (v := ?_) _ rfl rfl (by kernel_rfl) (by kernel_rfl) (by kernel_rfl) (fun _ _ _ h => h) (by rfl) ?_ (by assumption) ?_
                      rotate_left
                      · (intro w hSw; (try dsimp only at hSw); go_simp) <;> with_reducible rfl
                      try simp only [Act.put, List.setIfInBounds_toArray, List.set_cons_zero, List.set_cons_succ]
                      refine wpAnyH_done (by kernel_rfl) ?_ _
                      have HB2 := Lib.hid (HB.out.trans (hHeld.1.mono HB.out.size))
                      clear hHeld
                      go_wp2_with fail
                      go_roundw
                      case rel =>
                        have Q : LqRel (flP X) (flP Y) k wS (.bool false) (.int .i64 ((i : Int) + 1)) wr.drew := ⟨⟨i + 1, false, HLT.out, by go_num, rfl, .inr ⟨rfl, HNE.out⟩, HB2.out⟩⟩
                        first | exact Q | ((repeat apply Exists.intro); exact ⟨Q, rfl⟩)
                      case measure => have := HLT.out; have := HK40.out; simp [intOf]; omega
                  · have hiI : ¬ (i : Int) < (k : Int) := by omega
                    have HEQ : Hid (flP X = flP Y) := by
                      have h1 := HTK.out
                      have lx := D4.out.dx.len
                      have hl := HLEN.out
                      have hik := HI.out
                      rw [List.take_of_length_le (by omega), List.take_of_length_le (by omega)] at h1
                      exact h1
                    clear hik
                    have EXY : Hid (eqL X Y = true) := by unfold Hid; rw [eqL_fl]; exact decide_eq_true HEQ.out
                    have EYX : Hid (eqL Y X = true) := by unfold Hid; rw [eqL_fl]; exact decide_eq_true HEQ.out.symm
                    go_wp2_with fail
                    refine (known_any wr).mono ?_
                    rintro e w5 ⟨rfl, b5⟩
                    have D5 := Lib.hid (D4.out.below b5)
                    clear b5 D4
                    go_wp2_with fail
                    refine (same_any gx gz rx rz X Z w5 D5.out.dx.lf SMX.out D5.out.lz SMZ.out).mono ?_
                    rintro e w6 ⟨rfl, b6⟩
                    rw [EXZ.out]
                    have D6 := Lib.hid (D5.out.below b6)
                    clear b6 D5
                    go_wp2_with fail
                    refine (same_any gx gy rx ry X Y w6 D6.out.dx.lf SMX.out D6.out.dy.lf SMY.out).mono ?_
                    rintro e w7 ⟨rfl, b7⟩
                    rw [EXY.out]
                    have D7 := Lib.hid (D6.out.below b7)
                    clear b7 D6
                    go_wp2_with fail
                    refine (same_any gy gx ry rx Y X w7 D7.out.dy.lf SMY.out D7.out.dx.lf SMX.out).mono ?_
                    rintro e w8 ⟨rfl, b8⟩
                    rw [EYX.out]
                    have D8 := Lib.hid (D7.out.below b8)
                    clear b8 D7
                    go_wp2_with fail
                    go_ret
                    exact ⟨rfl, D8.out.dx.bel⟩
                · have HEQ : Hid (flP X ≠ flP Y) := hne
                  clear hne
                  by_cases hik : i < k
                  · have hiI : (i : Int) < (k : Int) := by omega
                    have EXY : Hid (eqL X Y = false) := by unfold Hid; rw [eqL_fl]; exact decide_eq_false HEQ.out
                    have EYX : Hid (eqL Y X = false) := by unfold Hid; rw [eqL_fl]; exact decide_eq_false (fun e => HEQ.out e.symm)
                    go_wp2_with fail
                    refine (known_any wr).mono ?_
                    rintro e w5 ⟨rfl, b5⟩
                    have D5 := Lib.hid (D4.out.below b5)
                    clear b5 D4
                    go_wp2_with fail
                    refine (same_any gx gz rx rz X Z w5 D5.out.dx.lf SMX.out D5.out.lz SMZ.out).mono ?_
                    rintro e w6 ⟨rfl, b6⟩
                    rw [EXZ.out]
                    have D6 := Lib.hid (D5.out.below b6)
                    clear b6 D5
                    go_wp2_with fail
                    refine (same_any gx gy rx ry X Y w6 D6.out.dx.lf SMX.out D6.out.dy.lf SMY.out).mono ?_
                    rintro e w7 ⟨rfl, b7⟩
                    rw [EXY.out]
                    have D7 := Lib.hid (D6.out.below b7)
                    clear b7 D6
                    go_wp2_with fail
                    refine (same_any gy gx ry rx Y X w7 D7.out.dy.lf SMY.out D7.out.dx.lf SMX.out).mono ?_
                    rintro e w8 ⟨rfl, b8⟩
                    rw [EYX.out]
                    have D8 := Lib.hid (D7.out.below b8)
                    clear b8 D7
                    go_wp2_with fail
                    go_ret
                    exact ⟨rfl, D8.out.dx.bel⟩
                  · have hiI : ¬ (i : Int) < (k : Int) := by omega
                    have EXY : Hid (eqL X Y = false) := by unfold Hid; rw [eqL_fl]; exact decide_eq_false HEQ.out
                    have EYX : Hid (eqL Y X = false) := by unfold Hid; rw [eqL_fl]; exact decide_eq_false (fun e => HEQ.out e.symm)
                    go_wp2_with fail
                    refine (known_any wr).mono ?_
                    rintro e w5 ⟨rfl, b5⟩
                    have D5 := Lib.hid (D4.out.below b5)
                    clear b5 D4
                    go_wp2_with fail
                    refine (same_any gx gz rx rz X Z w5 D5.out.dx.lf SMX.out D5.out.lz SMZ.out).mono ?_
                    rintro e w6 ⟨rfl, b6⟩
                    rw [EXZ.out]
                    have D6 := Lib.hid (D5.out.below b6)
                    clear b6 D5
                    go_wp2_with fail
                    refine (same_any gx gy rx ry X Y w6 D6.out.dx.lf SMX.out D6.out.dy.lf SMY.out).mono ?_
                    rintro e w7 ⟨rfl, b7⟩
                    rw [EXY.out]
                    have D7 := Lib.hid (D6.out.below b7)
                    clear b7 D6
                    go_wp2_with fail
                    refine (same_any gy gx ry rx Y X w7 D7.out.dy.lf SMY.out D7.out.dx.lf SMX.out).mono ?_
                    rintro e w8 ⟨rfl, b8⟩
                    rw [EYX.out]
                    have D8 := Lib.hid (D7.out.below b8)
                    clear b8 D7
                    go_wp2_with fail
                    go_ret
                    exact ⟨rfl, D8.out.dx.bel⟩
            · have hklB' : decide ((j : Int) < (len' : Int)) = false := by rw [decide_eq_false_iff_not]; exact hkl2
              have hklB2' : decide (j < len') = false := by rw [decide_eq_false_iff_not]; omega
              have HZE' := Lib.hid HZE.out
              have SMX : Hid (Sm X) := fun p hp => by
                have h1 := line_le X hp
                rw [D3.out.dx.len] at h1
                have := HK40.out; omega
              have SMY : Hid (Sm Y) := fun p hp => by
                have h1 := line_le Y hp
                rw [D3.out.dy.len] at h1
                have := HK41.out; omega
              have SMZ : Hid (Sm Z) := fun p hp => by
                have h1 := line_le Z hp
                rw [HZE.out, D3.out.dx.len] at h1
                have := HK40.out; omega
              have EXZ : Hid (eqL X Z = true) := by unfold Hid; rw [eqL_fl]; exact decide_eq_true HZE.out.symm
              obtain ⟨s0, hs0⟩ : ∃ s0, ((k : Int) == (k' : Int)) = s0 := ⟨_, rfl⟩
              have HS0 := Lib.hid hs0
              go_wp2_with fail
              --L3
              clear hs0
              obtain ⟨wS, hwS⟩ : ∃ wS, wS = wr := ⟨_, rfl⟩
              subst hwS
              go_loopw [16, 17] (fun v16 v17 wx => LqRel (flP X) (flP Y) k wS v16 v17 wx) (fun _ v => fun _ => 1001 - (intOf v).toNat)
              case atStart =>
                refine ⟨⟨0, s0, Nat.zero_le _, rfl, rfl, ?_, Below.refl _ _⟩⟩
                have h1 := HS0.out
                have lx := D3.out.dx.len
                have ly := D3.out.dy.len
                cases s0
                · rw [beq_eq_false_iff_ne] at h1
                  exact .inr ⟨rfl, fun e => h1 (by rw [← lx, ← ly, e])⟩
                · rw [beq_iff_eq] at h1
                  exact .inl ⟨rfl, by omega, by simp⟩
              case round =>
                obtain ⟨⟨i, s, hi, rfl, rfl, hcase, hb⟩⟩ := hrel
                have HB := Lib.hid hb
                have HI := Lib.hid hi
                have D4 := Lib.hid (D3.out.below hb)
                clear hb hi
                rcases hcase with ⟨rfl, hlen, htk⟩ | ⟨rfl, hne⟩
                · have HLEN := Lib.hid hlen
                  have HTK := Lib.hid htk
                  clear hlen htk
                  by_cases hik : i < k
                  · obtain ⟨b1, o1, rfl, _, lx, hc1⟩ := place_p D4.out.dx.rd (by omega)
                    have ly := D4.out.dy.len
                    have hkk : k = k' := by have := HLEN.out; omega
                    obtain ⟨b2, o2, rfl, _, _, hc2⟩ := place_p D4.out.dy.rd (by omega)
                    obtain ⟨d0, d1⟩ := hc1 i hik
                    obtain ⟨e0, e1⟩ := hc2 i (by omega)
                    obtain ⟨⟨x, q⟩, hx⟩ : ∃ y, (flP X).getD i (0, 0) = y := ⟨_, rfl⟩
                    obtain ⟨⟨y, r⟩, hy⟩ : ∃ y, (flP Y).getD i (0, 0) = y := ⟨_, rfl⟩
                    rw [hx] at d0 d1
                    rw [hy] at e0 e1
                    have HXX := Lib.hid hx
                    have HYY := Lib.hid hy
                    have HLL : Hid (i < (flP X).length ∧ i < (flP Y).length) := ⟨by omega, by omega⟩
                    have hiI : (i : Int) < (k : Int) := by omega
                    have hiI2 : (i : Int) < (k' : Int) := by omega
                    have hik2 : i < k' := by omega
                    have hi2 : (i : Int) < 1000 := by have := HK40.out; omega
                    have HLT : Hid (i < k) := hik
                    clear hc1 hc2 hx hy lx ly hkk
                    by_cases h1 : x = y
                    · by_cases h2 : q = r
                      · have HT2 : Hid ((flP X).take (i + 1) = (flP Y).take (i + 1)) := by
                          unfold Hid
                          rw [take_getP HLL.out.1, take_getP HLL.out.2, HTK.out, HXX.out, HYY.out, h1, h2]
                        subst h1
                        subst h2
                        go_wp2_with fail
                        refine wp_region_held_drew (S := (fun w' => Below wr.heap.size wr w' ∧ w'.cell? ⟨b1, o1 + i * 2, none⟩ = some (.int .i64 x) ∧ w'.cell? ⟨b1, o1 + i * 2 + 1, none⟩ = some (.int .i64 q) ∧ w'.cell? ⟨b2, o2 + i * 2, none⟩ = some (.int .i64 x) ∧ w'.cell? ⟨b2, o2 + i * 2 + 1, none⟩ = some (.int .i64 q))) (by kernel_rfl) ?_ (fun hHeld => ?_)
                        · exact ⟨(Below.refl _ _).drew, d0, d1, e0, e1⟩
                        refine takeD (i := 0) (d := some 141) (v := ?_) _ rfl rfl (by kernel_rfl) (by kernel_rfl) (by kernel_rfl) (fun _ _ _ h => h) (by rfl) ?_ (by assumption) ?_
                        rotate_left
                        · (intro w hSw; (try dsimp only at hSw); go_simp) <;> with_reducible rfl
                        try simp only [Act.put, List.setIfInBounds_toArray, List.set_cons_zero, List.set_cons_succ]
                        refine takeD (i := 1) (d := some 142) (v := ?_) _ rfl rfl (by kernel_rfl) (by kernel_rfl) (by kernel_rfl) (fun _ _ _ h => h) (by rfl) ?_ (by assumption) ?_
                        rotate_left
                        · (intro w hSw; (try dsimp only at hSw); go_simp) <;> with_reducible rfl
                        try simp only [Act.put, List.setIfInBounds_toArray, List.set_cons_zero, List.set_cons_succ]
                        refine takeD (i := 2) (d := some 143) (v := ?_) _ rfl rfl (by kernel_rfl) (by kernel_rfl) (by kernel_rfl) (fun _ _ _ h => h) (by rfl) ?_ (by assumption) ?_
                        rotate_left
                        · (intro w hSw; (try dsimp only at hSw); go_simp) <;> with_reducible rfl
                        try simp only [Act.put, List.setIfInBounds_toArray, List.set_cons_zero, List.set_cons_succ]
                        refine takeD (i := 3) (d := some 144) (v := ?_) _ rfl rfl (by kernel_rfl) (by kernel_rfl) (by kernel_rfl) (fun _ _ _ h => h) (by rfl) ?_ (by assumption) ?_
                        rotate_left
                        · (intro w hSw; (try dsimp only at hSw); go_simp) <;> with_reducible rfl
                        try simp only [Act.put, List.setIfInBounds_toArray, List.set_cons_zero, List.set_cons_succ]
                        refine takeD (i := 4) (d := some 145) (v := ?_) _ rfl rfl (by kernel_rfl) (by kernel_rfl) (by kernel_rfl) (fun _ _ _ h => h) (by rfl) ?_ (by assumption) ?_
                        rotate_left
                        · (intro w hSw; (try dsimp only at hSw); go_simp) <;> with_reducible rfl
                        try simp only [Act.put, List.setIfInBounds_toArray, List.set_cons_zero, List.set_cons_succ]
                        refine takeD (i := 5) (d := some 146) (v := ?_) _ rfl rfl (by kernel_rfl) (by kernel_rfl) (by kernel_rfl) (fun _ _ _ h => h) (by rfl) ?_ (by assumption) ?_
                        rotate_left
                        · (intro w hSw; (try dsimp only at hSw); go_simp) <;> with_reducible rfl
                        try simp only [Act.put, List.setIfInBounds_toArray, List.set_cons_zero, List.set_cons_succ]
                        refine takeD (i := 6) (d := some 147) (v := ?_) _ rfl rfl (by kernel_rfl) (by kernel_rfl) (by kernel_rfl) (fun _ _ _ h => h) (by rfl) ?_ (by assumption) ?_
                        rotate_left
                        · (intro w hSw; (try dsimp only at hSw); go_simp) <;> with_reducible rfl
                        try simp only [Act.put, List.setIfInBounds_toArray, List.set_cons_zero, List.set_cons_succ]
                        refine takeD (i := 7) (d := some 148) (v := ?_) _ rfl rfl (by kernel_rfl) (by kernel_rfl) (by kernel_rfl) (fun _ _ _ h => h) (by rfl) ?_ (by assumption) ?_
                        rotate_left
                        · (intro w hSw; (try dsimp only at hSw); go_simp) <;> with_reducible rfl
                        try simp only [Act.put, List.setIfInBounds_toArray, List.set_cons_zero, List.set_cons_succ]
                        refine takeD (i := 8) (d := some 149) (v := ?_) _ rfl rfl (by kernel_rfl) (by kernel_rfl) (by kernel_rfl) (fun _ _ _ h => h) (by rfl) ?_ (by assumption) ?_
                        rotate_left
                        · (intro w hSw; (try dsimp only at hSw); go_simp) <;> with_reducible rfl
                        try simp only [Act.put, List.setIfInBounds_toArray, List.set_cons_zero, List.set_cons_succ]
                        refine takeD (i := 9) (d := some 16) (v := ?_) _ rfl rfl (by kernel_rfl) (by kernel_rfl) (by kernel_rfl) (fun _ _ _ h => h) (by rfl) ?_ (by assumption) ?_
                        rotate_left
                        · (intro w hSw; (try dsimp only at hSw); go_simp) <;> with_reducible rfl
                        try simp only [Act.put, List.setIfInBounds_toArray, List.set_cons_zero, List.set_cons_succ]
                        refine wpAnyH_done (by kernel_rfl) ?_ _
                        have HB2 := Lib.hid (HB.out.trans (hHeld.1.mono HB.out.size))
                        clear hHeld
                        go_wp2_with fail
                        go_roundw
                        case rel =>
                          have Q : LqRel (flP X) (flP Y) k wS (.bool true) (.int .i64 ((i : Int) + 1)) wr.drew := ⟨⟨i + 1, true, HLT.out, by go_num, rfl, .inl ⟨rfl, HLEN.out, HT2.out⟩, HB2.out⟩⟩
                          first | exact Q | ((repeat apply Exists.intro); exact ⟨Q, rfl⟩)
                        case measure => have := HLT.out; have := HK40.out; simp [intOf]; omega
                      · have HNE : Hid (flP X ≠ flP Y) := fun e => by
                          have h3 := HXX.out
                          rw [e, HYY.out] at h3
                          injection h3 with _ h4
                          exact h2 h4.symm
                        subst h1
                        go_wp2_with fail
                        refine wp_region_held_drew (S := (fun w' => Below wr.heap.size wr w' ∧ w'.cell? ⟨b1, o1 + i * 2, none⟩ = some (.int .i64 x) ∧ w'.cell? ⟨b1, o1 + i * 2 + 1, none⟩ = some (.int .i64 q) ∧ w'.cell? ⟨b2, o2 + i * 2, none⟩ = some (.int .i64 x) ∧ w'.cell? ⟨b2, o2 + i * 2 + 1, none⟩ = some (.int .i64 r))) (by kernel_rfl) ?_ (fun hHeld => ?_)
                        · exact ⟨(Below.refl _ _).drew, d0, d1, e0, e1⟩
                        refine takeD (i := 0) (d := some 141) (v := ?_) _ rfl rfl (by kernel_rfl) (by kernel_rfl) (by kernel_rfl) (fun _ _ _ h => h) (by rfl) ?_ (by assumption) ?_
                        rotate_left
                        · (intro w hSw; (try dsimp only at hSw); go_simp) <;> with_reducible rfl
                        try simp only [Act.put, List.setIfInBounds_toArray, List.set_cons_zero, List.set_cons_succ]
                        refine takeD (i := 1) (d := some 142) (v := ?_) _ rfl rfl (by kernel_rfl) (by kernel_rfl) (by kernel_rfl) (fun _ _ _ h => h) (by rfl) ?_ (by assumption) ?_
                        rotate_left
                        · (intro w hSw; (try dsimp only at hSw); go_simp) <;> with_reducible rfl
                        try simp only [Act.put, List.setIfInBounds_toArray, List.set_cons_zero, List.set_cons_succ]
                        refine takeD (i := 2) (d := some 143) (v := ?_) _ rfl rfl (by kernel_rfl) (by kernel_rfl) (by kernel_rfl) (fun _ _ _ h => h) (by rfl) ?_ (by assumption) ?_
                        rotate_left
                        · (intro w hSw; (try dsimp only at hSw); go_simp) <;> with_reducible rfl
                        try simp only [Act.put, List.setIfInBounds_toArray, List.set_cons_zero, List.set_cons_succ]
                        refine takeD (i := 3) (d := some 144) (v := ?_) _ rfl rfl (by kernel_rfl) (by kernel_rfl) (by kernel_rfl) (fun _ _ _ h => h) (by rfl) ?_ (by assumption) ?_
                        rotate_left
                        · (intro w hSw; (try dsimp only at hSw); go_simp) <;> with_reducible rfl
                        try simp only [Act.put, List.setIfInBounds_toArray, List.set_cons_zero, List.set_cons_succ]
                        refine takeD (i := 4) (d := some 145) (v := ?_) _ rfl rfl (by kernel_rfl) (by kernel_rfl) (by kernel_rfl) (fun _ _ _ h => h) (by rfl) ?_ (by assumption) ?_
                        rotate_left
                        · (intro w hSw; (try dsimp only at hSw); go_simp) <;> with_reducible rfl
                        try simp only [Act.put, List.setIfInBounds_toArray, List.set_cons_zero, List.set_cons_succ]
                        refine takeD (i := 5) (d := some 146) (v := ?_) _ rfl rfl (by kernel_rfl) (by kernel_rfl) (by kernel_rfl) (fun _ _ _ h => h) (by rfl) ?_ (by assumption) ?_
                        rotate_left
                        · (intro w hSw; (try dsimp only at hSw); go_simp) <;> with_reducible rfl
                        try simp only [Act.put, List.setIfInBounds_toArray, List.set_cons_zero, List.set_cons_succ]
                        refine takeD (i := 6) (d := some 147) (v := ?_) _ rfl rfl (by kernel_rfl) (by kernel_rfl) (by kernel_rfl) (fun _ _ _ h => h) (by rfl) ?_ (by assumption) ?_
                        rotate_left
                        · (intro w hSw; (try dsimp only at hSw); go_simp) <;> with_reducible rfl
                        try simp only [Act.put, List.setIfInBounds_toArray, List.set_cons_zero, List.set_cons_succ]
                        refine takeD (i := 7) (d := some 148) (v := ?_) _ rfl rfl (by kernel_rfl) (by kernel_rfl) (by kernel_rfl) (fun _ _ _ h => h) (by rfl) ?_ (by assumption) ?_
                        rotate_left
                        · (intro w hSw; (try dsimp only at hSw); go_simp) <;> with_reducible rfl
                        try simp only [Act.put, List.setIfInBounds_toArray, List.set_cons_zero, List.set_cons_succ]
                        refine takeD (i := 8) (d := some 149) (v := ?_) _ rfl rfl (by kernel_rfl) (by kernel_rfl) (by kernel_rfl) (fun _ _ _ h => h) (by rfl) ?_ (by assumption) ?_
                        rotate_left
                        · (intro w hSw; (try dsimp only at hSw); go_simp) <;> with_reducible rfl
                        try simp only [Act.put, List.setIfInBounds_toArray, List.set_cons_zero, List.set_cons_succ]
                        refine takeD (i := 9) (d := some 16) (v := ?_) _ rfl rfl (by kernel_rfl) (by kernel_rfl) (by kernel_rfl) (fun _ _ _ h => h) (by rfl) ?_ (by assumption) ?_
                        rotate_left
                        · (intro w hSw; (try dsimp only at hSw); go_simp) <;> with_reducible rfl
                        try simp only [Act.put, List.setIfInBounds_toArray, List.set_cons_zero, List.set_cons_succ]
                        refine wpAnyH_done (by kernel_rfl) ?_ _
                        have HB2 := Lib.hid (HB.out.trans (hHeld.1.mono HB.out.size))
                        clear hHeld
                        go_wp2_with fail
                        go_roundw
                        case rel =>
                          have Q : LqRel (flP X) (flP Y) k wS (.bool false) (.int .i64 ((i : Int) + 1)) wr.drew := ⟨⟨i + 1, false, HLT.out, by go_num, rfl, .inr ⟨rfl, HNE.out⟩, HB2.out⟩⟩
                          first | exact Q | ((repeat apply Exists.intro); exact ⟨Q, rfl⟩)
                        case measure => have := HLT.out; have := HK40.out; simp [intOf]; omega
                    · have HNE : Hid (flP X ≠ flP Y) := fun e => by
                        have h3 := HXX.out
                        rw [e, HYY.out] at h3
                        injection h3 with h4 _
                        exact h1 h4.symm
                      go_wp2_with fail
                      refine wp_region_held_drew (S := (fun w' => Below wr.heap.size wr w' ∧ w'.cell? ⟨b1, o1 + i * 2, none⟩ = some (.int .i64 x) ∧ w'.cell? ⟨b1, o1 + i * 2 + 1, none⟩ = some (.int .i64 q) ∧ w'.cell? ⟨b2, o2 + i * 2, none⟩ = some (.int .i64 y) ∧ w'.cell? ⟨b2, o2 + i * 2 + 1, none⟩ = some (.int .i64 r))) (by kernel_rfl) ?_ (fun hHeld => ?_)
                      · exact ⟨(Below.refl _ _).drew, d0, d1, e0, e1⟩
                      refine takeD (i := 0) (d := some 141) (v := ?_) _ rfl rfl (by kernel_rfl) (by kernel_rfl) (by kernel_rfl) (fun _ _ _ h => h) (by rfl) ?_ (by assumption) ?_
                      rotate_left
                      · (intro w hSw; (try dsimp only at hSw); go_simp) <;> with_reducible rfl
                      try simp only [Act.put, List.setIfInBounds_toArray, List.set_cons_zero, List.set_cons_succ]
                      refine takeD (i := 1) (d := some 142) (v := ?_) _ rfl rfl (by kernel_rfl) (by kernel_rfl) (by kernel_rfl) (fun _ _ _ h => h) (by rfl) ?_ (by assumption) ?_
                      rotate_left
                      · (intro w hSw; (try dsimp only at hSw); go_simp) <;> with_reducible rfl
                      try simp only [Act.put, List.setIfInBounds_toArray, List.set_cons_zero, List.set_cons_succ]
                      refine takeD (i := 2) (d := some 143) (v := ?_) _ rfl rfl (by kernel_rfl) (by kernel_rfl) (by kernel_rfl) (fun _ _ _ h => h) (by rfl) ?_ (by assumption) ?_
                      rotate_left
                      · (intro w hSw; (try dsimp only at hSw); go_simp) <;> with_reducible rfl
                      try simp only [Act.put, List.setIfInBounds_toArray, List.set_cons_zero, List.set_cons_succ]
                      refine takeD (i := 3) (d := some 144) (v := ?_) _ rfl rfl (by kernel_rfl) (by kernel_rfl) (by kernel_rfl) (fun _ _ _ h => h) (by rfl) ?_ (by assumption) ?_
                      rotate_left
                      · (intro w hSw; (try dsimp only at hSw); go_simp) <;> with_reducible rfl
                      try simp only [Act.put, List.setIfInBounds_toArray, List.set_cons_zero, List.set_cons_succ]
                      refine takeD (i := 4) (d := some 145) (v := ?_) _ rfl rfl (by kernel_rfl) (by kernel_rfl) (by kernel_rfl) (fun _ _ _ h => h) (by rfl) ?_ (by assumption) ?_
                      rotate_left
                      · (intro w hSw; (try dsimp only at hSw); go_simp) <;> with_reducible rfl
                      try simp only [Act.put, List.setIfInBounds_toArray, List.set_cons_zero, List.set_cons_succ]
                      refine takeD (i := 5) (d := some 146) (v := ?_) _ rfl rfl (by kernel_rfl) (by kernel_rfl) (by kernel_rfl) (fun _ _ _ h => h) (by rfl) ?_ (by assumption) ?_
                      rotate_left
                      · (intro w hSw; (try dsimp only at hSw); go_simp) <;> with_reducible rfl
                      try simp only [Act.put, List.setIfInBounds_toArray, List.set_cons_zero, List.set_cons_succ]
                      refine takeD (i := 6) (d := some 147) (v := ?_) _ rfl rfl (by kernel_rfl) (by kernel_rfl) (by kernel_rfl) (fun _ _ _ h => h) (by rfl) ?_ (by assumption) ?_
                      rotate_left
                      · (intro w hSw; (try dsimp only at hSw); go_simp) <;> with_reducible rfl
                      try simp only [Act.put, List.setIfInBounds_toArray, List.set_cons_zero, List.set_cons_succ]
                      refine takeD (i := 7) (d := some 148) (v := ?_) _ rfl rfl (by kernel_rfl) (by kernel_rfl) (by kernel_rfl) (fun _ _ _ h => h) (by rfl) ?_ (by assumption) ?_
                      rotate_left
                      · (intro w hSw; (try dsimp only at hSw); go_simp) <;> with_reducible rfl
                      try simp only [Act.put, List.setIfInBounds_toArray, List.set_cons_zero, List.set_cons_succ]
                      refine takeD (i := 8) (d := some 149) (v := ?_) _ rfl rfl (by kernel_rfl) (by kernel_rfl) (by kernel_rfl) (fun _ _ _ h => h) (by rfl) ?_ (by assumption) ?_
                      rotate_left
                      · (intro w hSw; (try dsimp only at hSw); go_simp) <;> with_reducible rfl
                      try simp only [Act.put, List.setIfInBounds_toArray, List.set_cons_zero, List.set_cons_succ]
                      refine takeD (i := 9) (d := some 16) (v := ?_) _ rfl rfl (by kernel_rfl) (by kernel_rfl) (by kernel_rfl) (fun _ _ _ h => h) (by rfl) ?_ (by assumption) ?_
                      rotate_left
                      · (intro w hSw; (try dsimp only at hSw); go_simp) <;> with_reducible rfl
                      try simp only [Act.put, List.setIfInBounds_toArray, List.set_cons_zero, List.set_cons_succ]
                      refine wpAnyH_done (by kernel_rfl) ?_ _
                      have HB2 := Lib.hid (HB.out.trans (hHeld.1.mono HB.out.size))
                      clear hHeld
                      go_wp2_with fail
                      go_roundw
                      case rel =>
                        have Q : LqRel (flP X) (flP Y) k wS (.bool false) (.int .i64 ((i : Int) + 1)) wr.drew := ⟨⟨i + 1, false, HLT.out, by go_num, rfl, .inr ⟨rfl, HNE.out⟩, HB2.out⟩⟩
                        first | exact Q | ((repeat apply Exists.intro); exact ⟨Q, rfl⟩)
                      case measure => have := HLT.out; have := HK40.out; simp [intOf]; omega
                  · have hiI : ¬ (i : Int) < (k : Int) := by omega
                    have HEQ : Hid (flP X = flP Y) := by
                      have h1 := HTK.out
                      have lx := D4.out.dx.len
                      have hl := HLEN.out
                      have hik := HI.out
                      rw [List.take_of_length_le (by omega), List.take_of_length_le (by omega)] at h1
                      exact h1
                    clear hik
                    have EXY : Hid (eqL X Y = true) := by unfold Hid; rw [eqL_fl]; exact decide_eq_true HEQ.out
                    have EYX : Hid (eqL Y X = true) := by unfold Hid; rw [eqL_fl]; exact decide_eq_true HEQ.out.symm
                    go_wp2_with fail
                    refine (known_any wr).mono ?_
                    rintro e w5 ⟨rfl, b5⟩
                    have D5 := Lib.hid (D4.out.below b5)
                    clear b5 D4
                    go_wp2_with fail
                    refine (same_any gx gz rx rz X Z w5 D5.out.dx.lf SMX.out D5.out.lz SMZ.out).mono ?_
                    rintro e w6 ⟨rfl, b6⟩
                    rw [EXZ.out]
                    have D6 := Lib.hid (D5.out.below b6)
                    clear b6 D5
                    go_wp2_with fail
                    refine (same_any gx gy rx ry X Y w6 D6.out.dx.lf SMX.out D6.out.dy.lf SMY.out).mono ?_
                    rintro e w7 ⟨rfl, b7⟩
                    rw [EXY.out]
                    have D7 := Lib.hid (D6.out.below b7)
                    clear b7 D6
                    go_wp2_with fail
                    refine (same_any gy gx ry rx Y X w7 D7.out.dy.lf SMY.out D7.out.dx.lf SMX.out).mono ?_
                    rintro e w8 ⟨rfl, b8⟩
                    rw [EYX.out]
                    have D8 := Lib.hid (D7.out.below b8)
                    clear b8 D7
                    go_wp2_with fail
                    go_ret
                    exact ⟨rfl, D8.out.dx.bel⟩
                · have HEQ : Hid (flP X ≠ flP Y) := hne
                  clear hne
                  by_cases hik : i < k
                  · have hiI : (i : Int) < (k : Int) := by omega
                    have EXY : Hid (eqL X Y = false) := by unfold Hid; rw [eqL_fl]; exact decide_eq_false HEQ.out
                    have EYX : Hid (eqL Y X = false) := by unfold Hid; rw [eqL_fl]; exact decide_eq_false (fun e => HEQ.out e.symm)
                    go_wp2_with fail
                    refine (known_any wr).mono ?_
                    rintro e w5 ⟨rfl, b5⟩
                    have D5 := Lib.hid (D4.out.below b5)
                    clear b5 D4
                    go_wp2_with fail
                    refine (same_any gx gz rx rz X Z w5 D5.out.dx.lf SMX.out D5.out.lz SMZ.out).mono ?_
                    rintro e w6 ⟨rfl, b6⟩
                    rw [EXZ.out]
                    have D6 := Lib.hid (D5.out.below b6)
                    clear b6 D5
                    go_wp2_with fail
                    refine (same_any gx gy rx ry X Y w6 D6.out.dx.lf SMX.out D6.out.dy.lf SMY.out).mono ?_
                    rintro e w7 ⟨rfl, b7⟩
                    rw [EXY.out]
                    have D7 := Lib.hid (D6.out.below b7)
                    clear b7 D6
                    go_wp2_with fail
                    refine (same_any gy gx ry rx Y X w7 D7.out.dy.lf SMY.out D7.out.dx.lf SMX.out).mono ?_
                    rintro e w8 ⟨rfl, b8⟩
                    rw [EYX.out]
                    have D8 := Lib.hid (D7.out.below b8)
                    clear b8 D7
                    go_wp2_with fail
                    go_ret
                    exact ⟨rfl, D8.out.dx.bel⟩
                  · have hiI : ¬ (i : Int) < (k : Int) := by omega
                    have EXY : Hid (eqL X Y = false) := by unfold Hid; rw [eqL_fl]; exact decide_eq_false HEQ.out
                    have EYX : Hid (eqL Y X = false) := by unfold Hid; rw [eqL_fl]; exact decide_eq_false (fun e => HEQ.out e.symm)
                    go_wp2_with fail
                    refine (known_any wr).mono ?_
                    rintro e w5 ⟨rfl, b5⟩
                    have D5 := Lib.hid (D4.out.below b5)
                    clear b5 D4
                    go_wp2_with fail
                    refine (same_any gx gz rx rz X Z w5 D5.out.dx.lf SMX.out D5.out.lz SMZ.out).mono ?_
                    rintro e w6 ⟨rfl, b6⟩
                    rw [EXZ.out]
                    have D6 := Lib.hid (D5.out.below b6)
                    clear b6 D5
                    go_wp2_with fail
                    refine (same_any gx gy rx ry X Y w6 D6.out.dx.lf SMX.out D6.out.dy.lf SMY.out).mono ?_
                    rintro e w7 ⟨rfl, b7⟩
                    rw [EXY.out]
                    have D7 := Lib.hid (D6.out.below b7)
                    clear b7 D6
                    go_wp2_with fail
                    refine (same_any gy gx ry rx Y X w7 D7.out.dy.lf SMY.out D7.out.dx.lf SMX.out).mono ?_
                    rintro e w8 ⟨rfl, b8⟩
                    rw [EYX.out]
                    have D8 := Lib.hid (D7.out.below b8)
                    clear b8 D7
                    go_wp2_with fail
                    go_ret
                    exact ⟨rfl, D8.out.dx.bel⟩
      · have hklB : decide ((j : Int) < (len : Int)) = false := by rw [decide_eq_false_iff_not]; exact hkl
        have hklB2 : decide (j < len) = false := by rw [decide_eq_false_iff_not]; omega
        go_wp2_with fail
        --L2
        go_loopw [6, 9, 13] (fun v6 v9 v13 wx => S2Rel n' gx gy gz rx X A k c rz Z w v6 v9 v13 wx) (fun _ _ v => fun _ => 1001 - (intOf v).toNat)
        case atStart => exact ⟨⟨0, ry, _, none, 0, 0, Nat.zero_le _, rfl, rfl, rfl, HD.out, Nat.le_refl _⟩⟩
        case round =>
          clear HD HK HJ HN
          obtain ⟨⟨j, ry, Y, A', k', c', hj, rfl, rfl, rfl, hd, hk⟩⟩ := hrel
          have HD := Lib.hid hd
          have HK := Lib.hid hk
          have HJ := Lib.hid hj
          clear hd hk hj
          by_cases hlt : j < n'
          · skip
            obtain ⟨b, off, Kf, Mf, Tf, rfl, hc⟩ := HACT'.out (by have := HN'.out; omega)
            obtain ⟨c0, c1, c2⟩ := hc j (by have := HN'.out; omega)
            obtain ⟨K, hK⟩ : ∃ x, Kf j = x := ⟨_, rfl⟩
            obtain ⟨M, hM⟩ : ∃ x, Mf j = x := ⟨_, rfl⟩
            obtain ⟨T, hT⟩ : ∃ x, Tf j = x := ⟨_, rfl⟩
            rw [hK] at c0
            rw [hM] at c1
            rw [hT] at c2
            have d0 := cell_later HD.out.dx.bel c0
            have d1 := cell_later HD.out.dx.bel c1
            have d2 := cell_later HD.out.dx.bel c2
            have hjl : (j : Int) < (len' : Int) := by have := HN'.out; omega
            have hj60 : (j : Int) < 40 := by have := HN'.out; omega
            have hj2 : (j : Int) < 1000 := by omega
            have HX : Hid (j < n') := hlt
            obtain ⟨uk, κ, hk0, hk1, hk2, hk3, hk4⟩ := low5 K
            have HK5 : Hid (κ < 5) := hk3
            clear hc hK hM hT c0 c1 c2 hlt hk3
            have H1 := Lib.hid (HD.out.below ((Below.refl _ _).alloc (Nat.le_refl _) (.cells #[.int .i64 (κ : Int), .int .i64 M, .int .i64 T] 29)))
            go_wp2_with fail
            refine (do2_any gy ry Y A' k' c' (κ : Int) M T w _ H1.out.dy (by have := HK.out; have := HJ.out; have := HN'.out; omega) κ rfl HK5.out).mono ?_
            rintro e w2 ⟨A2, k2, c2, ry2, Y2, rfl, dd, hk2', dn, rr⟩
            have H2 := Lib.hid (H1.out.y dd dn)
            have HK2 : Hid (k2 ≤ j + 1) := by unfold Hid; have := HK.out; omega
            clear dd hk2' dn rr H1 HD d0 d1 d2 hk0 hk1 hk2 hk4
            go_wp2_with fail
            go_roundw
            case rel =>
              have Q : S2Rel n' gx gy gz rx X A k c rz Z w (.pointer (some ⟨gy, 0, none⟩)) (.slice A2 k2 c2) (.int .i64 ((j : Int) + 1)) w2 := ⟨⟨j + 1, ry2, Y2, A2, k2, c2, HX.out, by go_num, rfl, rfl, H2.out, HK2.out⟩⟩
              first | exact Q | ((repeat apply Exists.intro); exact ⟨Q, rfl⟩)
            case measure => have := HX.out; have := HN'.out; simp [intOf]; omega
          · have hjn : j = n' := by have := HJ.out; omega
            subst hjn
            clear hlt
            have HK41 : Hid (k' ≤ 40) := by unfold Hid; have := HK.out; have := HN'.out; omega
            have D3 := Lib.hid HD.out
            clear HD
            by_cases hkl2 : (j : Int) < (len' : Int)
            · have hk61 : ¬ (j : Int) < 40 := by have := HN'.out; omega
              have hk61B : decide ((j : Int) < 40) = false := by rw [decide_eq_false_iff_not]; exact hk61
              have HZE' := Lib.hid HZE.out
              have SMX : Hid (Sm X) := fun p hp => by
                have h1 := line_le X hp
                rw [D3.out.dx.len] at h1
                have := HK40.out; omega
              have SMY : Hid (Sm Y) := fun p hp => by
                have h1 := line_le Y hp
                rw [D3.out.dy.len] at h1
                have := HK41.out; omega
              have SMZ : Hid (Sm Z) := fun p hp => by
                have h1 := line_le Z hp
                rw [HZE.out, D3.out.dx.len] at h1
                have := HK40.out; omega
              have EXZ : Hid (eqL X Z = true) := by unfold Hid; rw [eqL_fl]; exact decide_eq_true HZE.out.symm
              obtain ⟨s0, hs0⟩ : ∃ s0, ((k : Int) == (k' : Int)) = s0 := ⟨_, rfl⟩
              have HS0 := Lib.hid hs0
              go_wp2_with fail
              --L3
              clear hs0
              obtain ⟨wS, hwS⟩ : ∃ wS, wS = wr := ⟨_, rfl⟩
              subst hwS
              go_loopw [16, 17] (fun v16 v17 wx => LqRel (flP X) (flP Y) k wS v16 v17 wx) (fun _ v => fun _ => 1001 - (intOf v).toNat)
              case atStart =>
                refine ⟨⟨0, s0, Nat.zero_le _, rfl, rfl, ?_, Below.refl _ _⟩⟩
                have h1 := HS0.out
                have lx := D3.out.dx.len
                have ly := D3.out.dy.len
                cases s0
                · rw [beq_eq_false_iff_ne] at h1
                  exact .inr ⟨rfl, fun e => h1 (by rw [← lx, ← ly, e])⟩
                · rw [beq_iff_eq] at h1
                  exact .inl ⟨rfl, by omega, by simp⟩
              case round =>
                obtain ⟨⟨i, s, hi, rfl, rfl, hcase, hb⟩⟩ := hrel
                have HB := Lib.hid hb
                have HI := Lib.hid hi
                have D4 := Lib.hid (D3.out.below hb)
                clear hb hi
                rcases hcase with ⟨rfl, hlen, htk⟩ | ⟨rfl, hne⟩
                · have HLEN := Lib.hid hlen
                  have HTK := Lib.hid htk
                  clear hlen htk
                  by_cases hik : i < k
                  · obtain ⟨b1, o1, rfl, _, lx, hc1⟩ := place_p D4.out.dx.rd (by omega)
                    have ly := D4.out.dy.len
                    have hkk : k = k' := by have := HLEN.out; omega
                    obtain ⟨b2, o2, rfl, _, _, hc2⟩ := place_p D4.out.dy.rd (by omega)
                    obtain ⟨d0, d1⟩ := hc1 i hik
                    obtain ⟨e0, e1⟩ := hc2 i (by omega)
                    obtain ⟨⟨x, q⟩, hx⟩ : ∃ y, (flP X).getD i (0, 0) = y := ⟨_, rfl⟩
                    obtain ⟨⟨y, r⟩, hy⟩ : ∃ y, (flP Y).getD i (0, 0) = y := ⟨_, rfl⟩
                    rw [hx] at d0 d1
                    rw [hy] at e0 e1
                    have HXX := Lib.hid hx
                    have HYY := Lib.hid hy
                    have HLL : Hid (i < (flP X).length ∧ i < (flP Y).length) := ⟨by omega, by omega⟩
                    have hiI : (i : Int) < (k : Int) := by omega
                    have hiI2 : (i : Int) < (k' : Int) := by omega
                    have hik2 : i < k' := by omega
                    have hi2 : (i : Int) < 1000 := by have := HK40.out; omega
                    have HLT : Hid (i < k) := hik
                    clear hc1 hc2 hx hy lx ly hkk
                    by_cases h1 : x = y
                    · by_cases h2 : q = r
                      · have HT2 : Hid ((flP X).take (i + 1) = (flP Y).take (i + 1)) := by
                          unfold Hid
                          rw [take_getP HLL.out.1, take_getP HLL.out.2, HTK.out, HXX.out, HYY.out, h1, h2]
                        subst h1
                        subst h2
                        go_wp2_with fail
                        refine wp_region_held_drew (S := (fun w' => Below wr.heap.size wr w' ∧ w'.cell? ⟨b1, o1 + i * 2, none⟩ = some (.int .i64 x) ∧ w'.cell? ⟨b1, o1 + i * 2 + 1, none⟩ = some (.int .i64 q) ∧ w'.cell? ⟨b2, o2 + i * 2, none⟩ = some (.int .i64 x) ∧ w'.cell? ⟨b2, o2 + i * 2 + 1, none⟩ = some (.int .i64 q))) (by kernel_rfl) ?_ (fun hHeld => ?_)
                        · exact ⟨(Below.refl _ _).drew, d0, d1, e0, e1⟩
                        refine takeD (i := 0) (d := some 141) (v := ?_) _ rfl rfl (by kernel_rfl) (by kernel_rfl) (by kernel_rfl) (fun _ _ _ h => h) (by rfl) ?_ (by assumption) ?_
                        rotate_left
                        · (intro w hSw; (try dsimp only at hSw); go_simp) <;> with_reducible rfl
                        try simp only [Act.put, List.setIfInBounds_toArray, List.set_cons_zero, List.set_cons_succ]
                        refine takeD (i := 1) (d := some 142) (v := ?_) _ rfl rfl (by kernel_rfl) (by kernel_rfl) (by kernel_rfl) (fun _ _ _ h => h) (by rfl) ?_ (by assumption) ?_
                        rotate_left
                        · (intro w hSw; (try dsimp only at hSw); go_simp) <;> with_reducible rfl
                        try simp only [Act.put, List.setIfInBounds_toArray, List.set_cons_zero, List.set_cons_succ]
                        refine takeD (i := 2) (d := some 143) (v := ?_) _ rfl rfl (by kernel_rfl) (by kernel_rfl) (by kernel_rfl) (fun _ _ _ h => h) (by rfl) ?_ (by assumption) ?_
                        rotate_left
                        · (intro w hSw; (try dsimp only at hSw); go_simp) <;> with_reducible rfl
                        try simp only [Act.put, List.setIfInBounds_toArray, List.set_cons_zero, List.set_cons_succ]
                        refine takeD (i := 3) (d := some 144) (v := ?_) _ rfl rfl (by kernel_rfl) (by kernel_rfl) (by kernel_rfl) (fun _ _ _ h => h) (by rfl) ?_ (by assumption) ?_
                        rotate_left
                        · (intro w hSw; (try dsimp only at hSw); go_simp) <;> with_reducible rfl
                        try simp only [Act.put, List.setIfInBounds_toArray, List.set_cons_zero, List.set_cons_succ]
                        refine takeD (i := 4) (d := some 145) (v := ?_) _ rfl rfl (by kernel_rfl) (by kernel_rfl) (by kernel_rfl) (fun _ _ _ h => h) (by rfl) ?_ (by assumption) ?_
                        rotate_left
                        · (intro w hSw; (try dsimp only at hSw); go_simp) <;> with_reducible rfl
                        try simp only [Act.put, List.setIfInBounds_toArray, List.set_cons_zero, List.set_cons_succ]
                        refine takeD (i := 5) (d := some 146) (v := ?_) _ rfl rfl (by kernel_rfl) (by kernel_rfl) (by kernel_rfl) (fun _ _ _ h => h) (by rfl) ?_ (by assumption) ?_
                        rotate_left
                        · (intro w hSw; (try dsimp only at hSw); go_simp) <;> with_reducible rfl
                        try simp only [Act.put, List.setIfInBounds_toArray, List.set_cons_zero, List.set_cons_succ]
                        refine takeD (i := 6) (d := some 147) (v := ?_) _ rfl rfl (by kernel_rfl) (by kernel_rfl) (by kernel_rfl) (fun _ _ _ h => h) (by rfl) ?_ (by assumption) ?_
                        rotate_left
                        · (intro w hSw; (try dsimp only at hSw); go_simp) <;> with_reducible rfl
                        try simp only [Act.put, List.setIfInBounds_toArray, List.set_cons_zero, List.set_cons_succ]
                        refine takeD (i := 7) (d := some 148) (v := ?_) _ rfl rfl (by kernel_rfl) (by kernel_rfl) (by kernel_rfl) (fun _ _ _ h => h) (by rfl) ?_ (by assumption) ?_
                        rotate_left
                        · (intro w hSw; (try dsimp only at hSw); go_simp) <;> with_reducible rfl
                        try simp only [Act.put, List.setIfInBounds_toArray, List.set_cons_zero, List.set_cons_succ]
                        refine takeD (i := 8) (d := some 149) (v := ?_) _ rfl rfl (by kernel_rfl) (by kernel_rfl) (by kernel_rfl) (fun _ _ _ h => h) (by rfl) ?_ (by assumption) ?_
                        rotate_left
                        · (intro w hSw; (try dsimp only at hSw); go_simp) <;> with_reducible rfl
                        try simp only [Act.put, List.setIfInBounds_toArray, List.set_cons_zero, List.set_cons_succ]
                        refine takeD (i := 9) (d := some 16) (v := ?_) _ rfl rfl (by kernel_rfl) (by kernel_rfl) (by kernel_rfl) (fun _ _ _ h => h) (by rfl) ?_ (by assumption) ?_
                        rotate_left
                        · (intro w hSw; (try dsimp only at hSw); go_simp) <;> with_reducible rfl
                        try simp only [Act.put, List.setIfInBounds_toArray, List.set_cons_zero, List.set_cons_succ]
                        refine wpAnyH_done (by kernel_rfl) ?_ _
                        have HB2 := Lib.hid (HB.out.trans (hHeld.1.mono HB.out.size))
                        clear hHeld
                        go_wp2_with fail
                        go_roundw
                        case rel =>
                          have Q : LqRel (flP X) (flP Y) k wS (.bool true) (.int .i64 ((i : Int) + 1)) wr.drew := ⟨⟨i + 1, true, HLT.out, by go_num, rfl, .inl ⟨rfl, HLEN.out, HT2.out⟩, HB2.out⟩⟩
                          first | exact Q | ((repeat apply Exists.intro); exact ⟨Q, rfl⟩)
                        case measure => have := HLT.out; have := HK40.out; simp [intOf]; omega
                      · have HNE : Hid (flP X ≠ flP Y) := fun e => by
                          have h3 := HXX.out
                          rw [e, HYY.out] at h3
                          injection h3 with _ h4
                          exact h2 h4.symm
                        subst h1
                        go_wp2_with fail
                        refine wp_region_held_drew (S := (fun w' => Below wr.heap.size wr w' ∧ w'.cell? ⟨b1, o1 + i * 2, none⟩ = some (.int .i64 x) ∧ w'.cell? ⟨b1, o1 + i * 2 + 1, none⟩ = some (.int .i64 q) ∧ w'.cell? ⟨b2, o2 + i * 2, none⟩ = some (.int .i64 x) ∧ w'.cell? ⟨b2, o2 + i * 2 + 1, none⟩ = some (.int .i64 r))) (by kernel_rfl) ?_ (fun hHeld => ?_)
                        · exact ⟨(Below.refl _ _).drew, d0, d1, e0, e1⟩
                        refine takeD (i := 0) (d := some 141) (v := ?_) _ rfl rfl (by kernel_rfl) (by kernel_rfl) (by kernel_rfl) (fun _ _ _ h => h) (by rfl) ?_ (by assumption) ?_
                        rotate_left
                        · (intro w hSw; (try dsimp only at hSw); go_simp) <;> with_reducible rfl
                        try simp only [Act.put, List.setIfInBounds_toArray, List.set_cons_zero, List.set_cons_succ]
                        refine takeD (i := 1) (d := some 142) (v := ?_) _ rfl rfl (by kernel_rfl) (by kernel_rfl) (by kernel_rfl) (fun _ _ _ h => h) (by rfl) ?_ (by assumption) ?_
                        rotate_left
                        · (intro w hSw; (try dsimp only at hSw); go_simp) <;> with_reducible rfl
                        try simp only [Act.put, List.setIfInBounds_toArray, List.set_cons_zero, List.set_cons_succ]
                        refine takeD (i := 2) (d := some 143) (v := ?_) _ rfl rfl (by kernel_rfl) (by kernel_rfl) (by kernel_rfl) (fun _ _ _ h => h) (by rfl) ?_ (by assumption) ?_
                        rotate_left
                        · (intro w hSw; (try dsimp only at hSw); go_simp) <;> with_reducible rfl
                        try simp only [Act.put, List.setIfInBounds_toArray, List.set_cons_zero, List.set_cons_succ]
                        refine takeD (i := 3) (d := some 144) (v := ?_) _ rfl rfl (by kernel_rfl) (by kernel_rfl) (by kernel_rfl) (fun _ _ _ h => h) (by rfl) ?_ (by assumption) ?_
                        rotate_left
                        · (intro w hSw; (try dsimp only at hSw); go_simp) <;> with_reducible rfl
                        try simp only [Act.put, List.setIfInBounds_toArray, List.set_cons_zero, List.set_cons_succ]
                        refine takeD (i := 4) (d := some 145) (v := ?_) _ rfl rfl (by kernel_rfl) (by kernel_rfl) (by kernel_rfl) (fun _ _ _ h => h) (by rfl) ?_ (by assumption) ?_
                        rotate_left
                        · (intro w hSw; (try dsimp only at hSw); go_simp) <;> with_reducible rfl
                        try simp only [Act.put, List.setIfInBounds_toArray, List.set_cons_zero, List.set_cons_succ]
                        refine takeD (i := 5) (d := some 146) (v := ?_) _ rfl rfl (by kernel_rfl) (by kernel_rfl) (by kernel_rfl) (fun _ _ _ h => h) (by rfl) ?_ (by assumption) ?_
                        rotate_left
                        · (intro w hSw; (try dsimp only at hSw); go_simp) <;> with_reducible rfl
                        try simp only [Act.put, List.setIfInBounds_toArray, List.set_cons_zero, List.set_cons_succ]
                        refine takeD (i := 6) (d := some 147) (v := ?_) _ rfl rfl (by kernel_rfl) (by kernel_rfl) (by kernel_rfl) (fun _ _ _ h => h) (by rfl) ?_ (by assumption) ?_
                        rotate_left
                        · (intro w hSw; (try dsimp only at hSw); go_simp) <;> with_reducible rfl
                        try simp only [Act.put, List.setIfInBounds_toArray, List.set_cons_zero, List.set_cons_succ]
                        refine takeD (i := 7) (d := some 148) (v := ?_) _ rfl rfl (by kernel_rfl) (by kernel_rfl) (by kernel_rfl) (fun _ _ _ h => h) (by rfl) ?_ (by assumption) ?_
                        rotate_left
                        · (intro w hSw; (try dsimp only at hSw); go_simp) <;> with_reducible rfl
                        try simp only [Act.put, List.setIfInBounds_toArray, List.set_cons_zero, List.set_cons_succ]
                        refine takeD (i := 8) (d := some 149) (v := ?_) _ rfl rfl (by kernel_rfl) (by kernel_rfl) (by kernel_rfl) (fun _ _ _ h => h) (by rfl) ?_ (by assumption) ?_
                        rotate_left
                        · (intro w hSw; (try dsimp only at hSw); go_simp) <;> with_reducible rfl
                        try simp only [Act.put, List.setIfInBounds_toArray, List.set_cons_zero, List.set_cons_succ]
                        refine takeD (i := 9) (d := some 16) (v := ?_) _ rfl rfl (by kernel_rfl) (by kernel_rfl) (by kernel_rfl) (fun _ _ _ h => h) (by rfl) ?_ (by assumption) ?_
                        rotate_left
                        · (intro w hSw; (try dsimp only at hSw); go_simp) <;> with_reducible rfl
                        try simp only [Act.put, List.setIfInBounds_toArray, List.set_cons_zero, List.set_cons_succ]
                        refine wpAnyH_done (by kernel_rfl) ?_ _
                        have HB2 := Lib.hid (HB.out.trans (hHeld.1.mono HB.out.size))
                        clear hHeld
                        go_wp2_with fail
                        go_roundw
                        case rel =>
                          have Q : LqRel (flP X) (flP Y) k wS (.bool false) (.int .i64 ((i : Int) + 1)) wr.drew := ⟨⟨i + 1, false, HLT.out, by go_num, rfl, .inr ⟨rfl, HNE.out⟩, HB2.out⟩⟩
                          first | exact Q | ((repeat apply Exists.intro); exact ⟨Q, rfl⟩)
                        case measure => have := HLT.out; have := HK40.out; simp [intOf]; omega
                    · have HNE : Hid (flP X ≠ flP Y) := fun e => by
                        have h3 := HXX.out
                        rw [e, HYY.out] at h3
                        injection h3 with h4 _
                        exact h1 h4.symm
                      go_wp2_with fail
                      refine wp_region_held_drew (S := (fun w' => Below wr.heap.size wr w' ∧ w'.cell? ⟨b1, o1 + i * 2, none⟩ = some (.int .i64 x) ∧ w'.cell? ⟨b1, o1 + i * 2 + 1, none⟩ = some (.int .i64 q) ∧ w'.cell? ⟨b2, o2 + i * 2, none⟩ = some (.int .i64 y) ∧ w'.cell? ⟨b2, o2 + i * 2 + 1, none⟩ = some (.int .i64 r))) (by kernel_rfl) ?_ (fun hHeld => ?_)
                      · exact ⟨(Below.refl _ _).drew, d0, d1, e0, e1⟩
                      refine takeD (i := 0) (d := some 141) (v := ?_) _ rfl rfl (by kernel_rfl) (by kernel_rfl) (by kernel_rfl) (fun _ _ _ h => h) (by rfl) ?_ (by assumption) ?_
                      rotate_left
                      · (intro w hSw; (try dsimp only at hSw); go_simp) <;> with_reducible rfl
                      try simp only [Act.put, List.setIfInBounds_toArray, List.set_cons_zero, List.set_cons_succ]
                      refine takeD (i := 1) (d := some 142) (v := ?_) _ rfl rfl (by kernel_rfl) (by kernel_rfl) (by kernel_rfl) (fun _ _ _ h => h) (by rfl) ?_ (by assumption) ?_
                      rotate_left
                      · (intro w hSw; (try dsimp only at hSw); go_simp) <;> with_reducible rfl
                      try simp only [Act.put, List.setIfInBounds_toArray, List.set_cons_zero, List.set_cons_succ]
                      refine takeD (i := 2) (d := some 143) (v := ?_) _ rfl rfl (by kernel_rfl) (by kernel_rfl) (by kernel_rfl) (fun _ _ _ h => h) (by rfl) ?_ (by assumption) ?_
                      rotate_left
                      · (intro w hSw; (try dsimp only at hSw); go_simp) <;> with_reducible rfl
                      try simp only [Act.put, List.setIfInBounds_toArray, List.set_cons_zero, List.set_cons_succ]
                      refine takeD (i := 3) (d := some 144) (v := ?_) _ rfl rfl (by kernel_rfl) (by kernel_rfl) (by kernel_rfl) (fun _ _ _ h => h) (by rfl) ?_ (by assumption) ?_
                      rotate_left
                      · (intro w hSw; (try dsimp only at hSw); go_simp) <;> with_reducible rfl
                      try simp only [Act.put, List.setIfInBounds_toArray, List.set_cons_zero, List.set_cons_succ]
                      refine takeD (i := 4) (d := some 145) (v := ?_) _ rfl rfl (by kernel_rfl) (by kernel_rfl) (by kernel_rfl) (fun _ _ _ h => h) (by rfl) ?_ (by assumption) ?_
                      rotate_left
                      · (intro w hSw; (try dsimp only at hSw); go_simp) <;> with_reducible rfl
                      try simp only [Act.put, List.setIfInBounds_toArray, List.set_cons_zero, List.set_cons_succ]
                      refine takeD (i := 5) (d := some 146) (v := ?_) _ rfl rfl (by kernel_rfl) (by kernel_rfl) (by kernel_rfl) (fun _ _ _ h => h) (by rfl) ?_ (by assumption) ?_
                      rotate_left
                      · (intro w hSw; (try dsimp only at hSw); go_simp) <;> with_reducible rfl
                      try simp only [Act.put, List.setIfInBounds_toArray, List.set_cons_zero, List.set_cons_succ]
                      refine takeD (i := 6) (d := some 147) (v := ?_) _ rfl rfl (by kernel_rfl) (by kernel_rfl) (by kernel_rfl) (fun _ _ _ h => h) (by rfl) ?_ (by assumption) ?_
                      rotate_left
                      · (intro w hSw; (try dsimp only at hSw); go_simp) <;> with_reducible rfl
                      try simp only [Act.put, List.setIfInBounds_toArray, List.set_cons_zero, List.set_cons_succ]
                      refine takeD (i := 7) (d := some 148) (v := ?_) _ rfl rfl (by kernel_rfl) (by kernel_rfl) (by kernel_rfl) (fun _ _ _ h => h) (by rfl) ?_ (by assumption) ?_
                      rotate_left
                      · (intro w hSw; (try dsimp only at hSw); go_simp) <;> with_reducible rfl
                      try simp only [Act.put, List.setIfInBounds_toArray, List.set_cons_zero, List.set_cons_succ]
                      refine takeD (i := 8) (d := some 149) (v := ?_) _ rfl rfl (by kernel_rfl) (by kernel_rfl) (by kernel_rfl) (fun _ _ _ h => h) (by rfl) ?_ (by assumption) ?_
                      rotate_left
                      · (intro w hSw; (try dsimp only at hSw); go_simp) <;> with_reducible rfl
                      try simp only [Act.put, List.setIfInBounds_toArray, List.set_cons_zero, List.set_cons_succ]
                      refine takeD (i := 9) (d := some 16) (v := ?_) _ rfl rfl (by kernel_rfl) (by kernel_rfl) (by kernel_rfl) (fun _ _ _ h => h) (by rfl) ?_ (by assumption) ?_
                      rotate_left
                      · (intro w hSw; (try dsimp only at hSw); go_simp) <;> with_reducible rfl
                      try simp only [Act.put, List.setIfInBounds_toArray, List.set_cons_zero, List.set_cons_succ]
                      refine wpAnyH_done (by kernel_rfl) ?_ _
                      have HB2 := Lib.hid (HB.out.trans (hHeld.1.mono HB.out.size))
                      clear hHeld
                      go_wp2_with fail
                      go_roundw
                      case rel =>
                        have Q : LqRel (flP X) (flP Y) k wS (.bool false) (.int .i64 ((i : Int) + 1)) wr.drew := ⟨⟨i + 1, false, HLT.out, by go_num, rfl, .inr ⟨rfl, HNE.out⟩, HB2.out⟩⟩
                        first | exact Q | ((repeat apply Exists.intro); exact ⟨Q, rfl⟩)
                      case measure => have := HLT.out; have := HK40.out; simp [intOf]; omega
                  · have hiI : ¬ (i : Int) < (k : Int) := by omega
                    have HEQ : Hid (flP X = flP Y) := by
                      have h1 := HTK.out
                      have lx := D4.out.dx.len
                      have hl := HLEN.out
                      have hik := HI.out
                      rw [List.take_of_length_le (by omega), List.take_of_length_le (by omega)] at h1
                      exact h1
                    clear hik
                    have EXY : Hid (eqL X Y = true) := by unfold Hid; rw [eqL_fl]; exact decide_eq_true HEQ.out
                    have EYX : Hid (eqL Y X = true) := by unfold Hid; rw [eqL_fl]; exact decide_eq_true HEQ.out.symm
                    go_wp2_with fail
                    refine (known_any wr).mono ?_
                    rintro e w5 ⟨rfl, b5⟩
                    have D5 := Lib.hid (D4.out.below b5)
                    clear b5 D4
                    go_wp2_with fail
                    refine (same_any gx gz rx rz X Z w5 D5.out.dx.lf SMX.out D5.out.lz SMZ.out).mono ?_
                    rintro e w6 ⟨rfl, b6⟩
                    rw [EXZ.out]
                    have D6 := Lib.hid (D5.out.below b6)
                    clear b6 D5
                    go_wp2_with fail
                    refine (same_any gx gy rx ry X Y w6 D6.out.dx.lf SMX.out D6.out.dy.lf SMY.out).mono ?_
                    rintro e w7 ⟨rfl, b7⟩
                    rw [EXY.out]
                    have D7 := Lib.hid (D6.out.below b7)
                    clear b7 D6
                    go_wp2_with fail
                    refine (same_any gy gx ry rx Y X w7 D7.out.dy.lf SMY.out D7.out.dx.lf SMX.out).mono ?_
                    rintro e w8 ⟨rfl, b8⟩
                    rw [EYX.out]
                    have D8 := Lib.hid (D7.out.below b8)
                    clear b8 D7
                    go_wp2_with fail
                    go_ret
                    exact ⟨rfl, D8.out.dx.bel⟩
                · have HEQ : Hid (flP X ≠ flP Y) := hne
                  clear hne
                  by_cases hik : i < k
                  · have hiI : (i : Int) < (k : Int) := by omega
                    have EXY : Hid (eqL X Y = false) := by unfold Hid; rw [eqL_fl]; exact decide_eq_false HEQ.out
                    have EYX : Hid (eqL Y X = false) := by unfold Hid; rw [eqL_fl]; exact decide_eq_false (fun e => HEQ.out e.symm)
                    go_wp2_with fail
                    refine (known_any wr).mono ?_
                    rintro e w5 ⟨rfl, b5⟩
                    have D5 := Lib.hid (D4.out.below b5)
                    clear b5 D4
                    go_wp2_with fail
                    refine (same_any gx gz rx rz X Z w5 D5.out.dx.lf SMX.out D5.out.lz SMZ.out).mono ?_
                    rintro e w6 ⟨rfl, b6⟩
                    rw [EXZ.out]
                    have D6 := Lib.hid (D5.out.below b6)
                    clear b6 D5
                    go_wp2_with fail
                    refine (same_any gx gy rx ry X Y w6 D6.out.dx.lf SMX.out D6.out.dy.lf SMY.out).mono ?_
                    rintro e w7 ⟨rfl, b7⟩
                    rw [EXY.out]
                    have D7 := Lib.hid (D6.out.below b7)
                    clear b7 D6
                    go_wp2_with fail
                    refine (same_any gy gx ry rx Y X w7 D7.out.dy.lf SMY.out D7.out.dx.lf SMX.out).mono ?_
                    rintro e w8 ⟨rfl, b8⟩
                    rw [EYX.out]
                    have D8 := Lib.hid (D7.out.below b8)
                    clear b8 D7
                    go_wp2_with fail
                    go_ret
                    exact ⟨rfl, D8.out.dx.bel⟩
                  · have hiI : ¬ (i : Int) < (k : Int) := by omega
                    have EXY : Hid (eqL X Y = false) := by unfold Hid; rw [eqL_fl]; exact decide_eq_false HEQ.out
                    have EYX : Hid (eqL Y X = false) := by unfold Hid; rw [eqL_fl]; exact decide_eq_false (fun e => HEQ.out e.symm)
                    go_wp2_with fail
                    refine (known_any wr).mono ?_
                    rintro e w5 ⟨rfl, b5⟩
                    have D5 := Lib.hid (D4.out.below b5)
                    clear b5 D4
                    go_wp2_with fail
                    refine (same_any gx gz rx rz X Z w5 D5.out.dx.lf SMX.out D5.out.lz SMZ.out).mono ?_
                    rintro e w6 ⟨rfl, b6⟩
                    rw [EXZ.out]
                    have D6 := Lib.hid (D5.out.below b6)
                    clear b6 D5
                    go_wp2_with fail
                    refine (same_any gx gy rx ry X Y w6 D6.out.dx.lf SMX.out D6.out.dy.lf SMY.out).mono ?_
                    rintro e w7 ⟨rfl, b7⟩
                    rw [EXY.out]
                    have D7 := Lib.hid (D6.out.below b7)
                    clear b7 D6
                    go_wp2_with fail
                    refine (same_any gy gx ry rx Y X w7 D7.out.dy.lf SMY.out D7.out.dx.lf SMX.out).mono ?_
                    rintro e w8 ⟨rfl, b8⟩
                    rw [EYX.out]
                    have D8 := Lib.hid (D7.out.below b8)
                    clear b8 D7
                    go_wp2_with fail
                    go_ret
                    exact ⟨rfl, D8.out.dx.bel⟩
            · have hklB' : decide ((j : Int) < (len' : Int)) = false := by rw [decide_eq_false_iff_not]; exact hkl2
              have hklB2' : decide (j < len') = false := by rw [decide_eq_false_iff_not]; omega
              have HZE' := Lib.hid HZE.out
              have SMX : Hid (Sm X) := fun p hp => by
                have h1 := line_le X hp
                rw [D3.out.dx.len] at h1
                have := HK40.out; omega
              have SMY : Hid (Sm Y) := fun p hp => by
                have h1 := line_le Y hp
                rw [D3.out.dy.len] at h1
                have := HK41.out; omega
              have SMZ : Hid (Sm Z) := fun p hp => by
                have h1 := line_le Z hp
                rw [HZE.out, D3.out.dx.len] at h1
                have := HK40.out; omega
              have EXZ : Hid (eqL X Z = true) := by unfold Hid; rw [eqL_fl]; exact decide_eq_true HZE.out.symm
              obtain ⟨s0, hs0⟩ : ∃ s0, ((k : Int) == (k' : Int)) = s0 := ⟨_, rfl⟩
              have HS0 := Lib.hid hs0
              go_wp2_with fail
              --L3
              clear hs0
              obtain ⟨wS, hwS⟩ : ∃ wS, wS = wr := ⟨_, rfl⟩
              subst hwS
              go_loopw [16, 17] (fun v16 v17 wx => LqRel (flP X) (flP Y) k wS v16 v17 wx) (fun _ v => fun _ => 1001 - (intOf v).toNat)
              case atStart =>
                refine ⟨⟨0, s0, Nat.zero_le _, rfl, rfl, ?_, Below.refl _ _⟩⟩
                have h1 := HS0.out
                have lx := D3.out.dx.len
                have ly := D3.out.dy.len
                cases s0
                · rw [beq_eq_false_iff_ne] at h1
                  exact .inr ⟨rfl, fun e => h1 (by rw [← lx, ← ly, e])⟩
                · rw [beq_iff_eq] at h1
                  exact .inl ⟨rfl, by omega, by simp⟩
              case round =>
                obtain ⟨⟨i, s, hi, rfl, rfl, hcase, hb⟩⟩ := hrel
                have HB := Lib.hid hb
                have HI := Lib.hid hi
                have D4 := Lib.hid (D3.out.below hb)
                clear hb hi
                rcases hcase with ⟨rfl, hlen, htk⟩ | ⟨rfl, hne⟩
                · have HLEN := Lib.hid hlen
                  have HTK := Lib.hid htk
                  clear hlen htk
                  by_cases hik : i < k
                  · obtain ⟨b1, o1, rfl, _, lx, hc1⟩ := place_p D4.out.dx.rd (by omega)
                    have ly := D4.out.dy.len
                    have hkk : k = k' := by have := HLEN.out; omega
                    obtain ⟨b2, o2, rfl, _, _, hc2⟩ := place_p D4.out.dy.rd (by omega)
                    obtain ⟨d0, d1⟩ := hc1 i hik
                    obtain ⟨e0, e1⟩ := hc2 i (by omega)
                    obtain ⟨⟨x, q⟩, hx⟩ : ∃ y, (flP X).getD i (0, 0) = y := ⟨_, rfl⟩
                    obtain ⟨⟨y, r⟩, hy⟩ : ∃ y, (flP Y).getD i (0, 0) = y := ⟨_, rfl⟩
                    rw [hx] at d0 d1
                    rw [hy] at e0 e1
                    have HXX := Lib.hid hx
                    have HYY := Lib.hid hy
                    have HLL : Hid (i < (flP X).length ∧ i < (flP Y).length) := ⟨by omega, by omega⟩
                    have hiI : (i : Int) < (k : Int) := by omega
                    have hiI2 : (i : Int) < (k' : Int) := by omega
                    have hik2 : i < k' := by omega
                    have hi2 : (i : Int) < 1000 := by have := HK40.out; omega
                    have HLT : Hid (i < k) := hik
                    clear hc1 hc2 hx hy lx ly hkk
                    by_cases h1 : x = y
                    · by_cases h2 : q = r
                      · have HT2 : Hid ((flP X).take (i + 1) = (flP Y).take (i + 1)) := by
                          unfold Hid
                          rw [take_getP HLL.out.1, take_getP HLL.out.2, HTK.out, HXX.out, HYY.out, h1, h2]
                        subst h1
                        subst h2
                        go_wp2_with fail
                        refine wp_region_held_drew (S := (fun w' => Below wr.heap.size wr w' ∧ w'.cell? ⟨b1, o1 + i * 2, none⟩ = some (.int .i64 x) ∧ w'.cell? ⟨b1, o1 + i * 2 + 1, none⟩ = some (.int .i64 q) ∧ w'.cell? ⟨b2, o2 + i * 2, none⟩ = some (.int .i64 x) ∧ w'.cell? ⟨b2, o2 + i * 2 + 1, none⟩ = some (.int .i64 q))) (by kernel_rfl) ?_ (fun hHeld => ?_)
                        · exact ⟨(Below.refl _ _).drew, d0, d1, e0, e1⟩
                        refine takeD (i := 0) (d := some 141) (v := ?_) _ rfl rfl (by kernel_rfl) (by kernel_rfl) (by kernel_rfl) (fun _ _ _ h => h) (by rfl) ?_ (by assumption) ?_
                        rotate_left
                        · (intro w hSw; (try dsimp only at hSw); go_simp) <;> with_reducible rfl
                        try simp only [Act.put, List.setIfInBounds_toArray, List.set_cons_zero, List.set_cons_succ]
                        refine takeD (i := 1) (d := some 142) (v := ?_) _ rfl rfl (by kernel_rfl) (by kernel_rfl) (by kernel_rfl) (fun _ _ _ h => h) (by rfl) ?_ (by assumption) ?_
                        rotate_left
                        · (intro w hSw; (try dsimp only at hSw); go_simp) <;> with_reducible rfl
                        try simp only [Act.put, List.setIfInBounds_toArray, List.set_cons_zero, List.set_cons_succ]
                        refine takeD (i := 2) (d := some 143) (v := ?_) _ rfl rfl (by kernel_rfl) (by kernel_rfl) (by kernel_rfl) (fun _ _ _ h => h) (by rfl) ?_ (by assumption) ?_
                        rotate_left
                        · (intro w hSw; (try dsimp only at hSw); go_simp) <;> with_reducible rfl
                        try simp only [Act.put, List.setIfInBounds_toArray, List.set_cons_zero, List.set_cons_succ]
                        refine takeD (i := 3) (d := some 144) (v := ?_) _ rfl rfl (by kernel_rfl) (by kernel_rfl) (by kernel_rfl) (fun _ _ _ h => h) (by rfl) ?_ (by assumption) ?_
                        rotate_left
                        · (intro w hSw; (try dsimp only at hSw); go_simp) <;> with_reducible rfl
                        try simp only [Act.put, List.setIfInBounds_toArray, List.set_cons_zero, List.set_cons_succ]
                        refine takeD (i := 4) (d := some 145) (v := ?_) _ rfl rfl (by kernel_rfl) (by kernel_rfl) (by kernel_rfl) (fun _ _ _ h => h) (by rfl) ?_ (by assumption) ?_
                        rotate_left
                        · (intro w hSw; (try dsimp only at hSw); go_simp) <;> with_reducible rfl
                        try simp only [Act.put, List.setIfInBounds_toArray, List.set_cons_zero, List.set_cons_succ]
                        refine takeD (i := 5) (d := some 146) (v := ?_) _ rfl rfl (by kernel_rfl) (by kernel_rfl) (by kernel_rfl) (fun _ _ _ h => h) (by rfl) ?_ (by assumption) ?_
                        rotate_left
                        · (intro w hSw; (try dsimp only at hSw); go_simp) <;> with_reducible rfl
                        try simp only [Act.put, List.setIfInBounds_toArray, List.set_cons_zero, List.set_cons_succ]
                        refine takeD (i := 6) (d := some 147) (v := ?_) _ rfl rfl (by kernel_rfl) (by kernel_rfl) (by kernel_rfl) (fun _ _ _ h => h) (by rfl) ?_ (by assumption) ?_
                        rotate_left
                        · (intro w hSw; (try dsimp only at hSw); go_simp) <;> with_reducible rfl
                        try simp only [Act.put, List.setIfInBounds_toArray, List.set_cons_zero, List.set_cons_succ]
                        refine takeD (i := 7) (d := some 148) (v := ?_) _ rfl rfl (by kernel_rfl) (by kernel_rfl) (by kernel_rfl) (fun _ _ _ h => h) (by rfl) ?_ (by assumption) ?_
                        rotate_left
                        · (intro w hSw; (try dsimp only at hSw); go_simp) <;> with_reducible rfl
                        try simp only [Act.put, List.setIfInBounds_toArray, List.set_cons_zero, List.set_cons_succ]
                        refine takeD (i := 8) (d := some 149) (v := ?_) _ rfl rfl (by kernel_rfl) (by kernel_rfl) (by kernel_rfl) (fun _ _ _ h => h) (by rfl) ?_ (by assumption) ?_
                        rotate_left
                        · (intro w hSw; (try dsimp only at hSw); go_simp) <;> with_reducible rfl
                        try simp only [Act.put, List.setIfInBounds_toArray, List.set_cons_zero, List.set_cons_succ]
                        refine takeD (i := 9) (d := some 16) (v := ?_) _ rfl rfl (by kernel_rfl) (by kernel_rfl) (by kernel_rfl) (fun _ _ _ h => h) (by rfl) ?_ (by assumption) ?_
                        rotate_left
                        · (intro w hSw; (try dsimp only at hSw); go_simp) <;> with_reducible rfl
                        try simp only [Act.put, List.setIfInBounds_toArray, List.set_cons_zero, List.set_cons_succ]
                        refine wpAnyH_done (by kernel_rfl) ?_ _
                        have HB2 := Lib.hid (HB.out.trans (hHeld.1.mono HB.out.size))
                        clear hHeld
                        go_wp2_with fail
                        go_roundw
                        case rel =>
                          have Q : LqRel (flP X) (flP Y) k wS (.bool true) (.int .i64 ((i : Int) + 1)) wr.drew := ⟨⟨i + 1, true, HLT.out, by go_num, rfl, .inl ⟨rfl, HLEN.out, HT2.out⟩, HB2.out⟩⟩
                          first | exact Q | ((repeat apply Exists.intro); exact ⟨Q, rfl⟩)
                        case measure => have := HLT.out; have := HK40.out; simp [intOf]; omega
                      · have HNE : Hid (flP X ≠ flP Y) := fun e => by
                          have h3 := HXX.out
                          rw [e, HYY.out] at h3
                          injection h3 with _ h4
                          exact h2 h4.symm
                        subst h1
                        go_wp2_with fail
                        refine wp_region_held_drew (S := (fun w' => Below wr.heap.size wr w' ∧ w'.cell? ⟨b1, o1 + i * 2, none⟩ = some (.int .i64 x) ∧ w'.cell? ⟨b1, o1 + i * 2 + 1, none⟩ = some (.int .i64 q) ∧ w'.cell? ⟨b2, o2 + i * 2, none⟩ = some (.int .i64 x) ∧ w'.cell? ⟨b2, o2 + i * 2 + 1, none⟩ = some (.int .i64 r))) (by kernel_rfl) ?_ (fun hHeld => ?_)
                        · exact ⟨(Below.refl _ _).drew, d0, d1, e0, e1⟩
                        refine takeD (i := 0) (d := some 141) (v := ?_) _ rfl rfl (by kernel_rfl) (by kernel_rfl) (by kernel_rfl) (fun _ _ _ h => h) (by rfl) ?_ (by assumption) ?_
                        rotate_left
                        · (intro w hSw; (try dsimp only at hSw); go_simp) <;> with_reducible rfl
                        try simp only [Act.put, List.setIfInBounds_toArray, List.set_cons_zero, List.set_cons_succ]
                        refine takeD (i := 1) (d := some 142) (v := ?_) _ rfl rfl (by kernel_rfl) (by kernel_rfl) (by kernel_rfl) (fun _ _ _ h => h) (by rfl) ?_ (by assumption) ?_
                        rotate_left
                        · (intro w hSw; (try dsimp only at hSw); go_simp) <;> with_reducible rfl
                        try simp only [Act.put, List.setIfInBounds_toArray, List.set_cons_zero, List.set_cons_succ]
                        refine takeD (i := 2) (d := some 143) (v := ?_) _ rfl rfl (by kernel_rfl) (by kernel_rfl) (by kernel_rfl) (fun _ _ _ h => h) (by rfl) ?_ (by assumption) ?_
                        rotate_left
                        · (intro w hSw; (try dsimp only at hSw); go_simp) <;> with_reducible rfl
                        try simp only [Act.put, List.setIfInBounds_toArray, List.set_cons_zero, List.set_cons_succ]
                        refine takeD (i := 3) (d := some 144) (v := ?_) _ rfl rfl (by kernel_rfl) (by kernel_rfl) (by kernel_rfl) (fun _ _ _ h => h) (by rfl) ?_ (by assumption) ?_
                        rotate_left
                        · (intro w hSw; (try dsimp only at hSw); go_simp) <;> with_reducible rfl
                        try simp only [Act.put, List.setIfInBounds_toArray, List.set_cons_zero, List.set_cons_succ]
                        refine takeD (i := 4) (d := some 145) (v := ?_) _ rfl rfl (by kernel_rfl) (by kernel_rfl) (by kernel_rfl) (fun _ _ _ h => h) (by rfl) ?_ (by assumption) ?_
                        rotate_left
                        · (intro w hSw; (try dsimp only at hSw); go_simp) <;> with_reducible rfl
                        try simp only [Act.put, List.setIfInBounds_toArray, List.set_cons_zero, List.set_cons_succ]
                        refine takeD (i := 5) (d := some 146) (v := ?_) _ rfl rfl (by kernel_rfl) (by kernel_rfl) (by kernel_rfl) (fun _ _ _ h => h) (by rfl) ?_ (by assumption) ?_
                        rotate_left
                        · (intro w hSw; (try dsimp only at hSw); go_simp) <;> with_reducible rfl
                        try simp only [Act.put, List.setIfInBounds_toArray, List.set_cons_zero, List.set_cons_succ]
                        refine takeD (i := 6) (d := some 147) (v := ?_) _ rfl rfl (by kernel_rfl) (by kernel_rfl) (by kernel_rfl) (fun _ _ _ h => h) (by rfl) ?_ (by assumption) ?_
                        rotate_left
                        · (intro w hSw; (try dsimp only at hSw); go_simp) <;> with_reducible rfl
                        try simp only [Act.put, List.setIfInBounds_toArray, List.set_cons_zero, List.set_cons_succ]
                        refine takeD (i := 7) (d := some 148) (v := ?_) _ rfl rfl (by kernel_rfl) (by kernel_rfl) (by kernel_rfl) (fun _ _ _ h => h) (by rfl) ?_ (by assumption) ?_
                        rotate_left
                        · (intro w hSw; (try dsimp only at hSw); go_simp) <;> with_reducible rfl
                        try simp only [Act.put, List.setIfInBounds_toArray, List.set_cons_zero, List.set_cons_succ]
                        refine takeD (i := 8) (d := some 149) (v := ?_) _ rfl rfl (by kernel_rfl) (by kernel_rfl) (by kernel_rfl) (fun _ _ _ h => h) (by rfl) ?_ (by assumption) ?_
                        rotate_left
                        · (intro w hSw; (try dsimp only at hSw); go_simp) <;> with_reducible rfl
                        try simp only [Act.put, List.setIfInBounds_toArray, List.set_cons_zero, List.set_cons_succ]
                        refine takeD (i := 9) (d := some 16) (v := ?_) _ rfl rfl (by kernel_rfl) (by kernel_rfl) (by kernel_rfl) (fun _ _ _ h => h) (by rfl) ?_ (by assumption) ?_
                        rotate_left
                        · (intro w hSw; (try dsimp only at hSw); go_simp) <;> with_reducible rfl
                        try simp only [Act.put, List.setIfInBounds_toArray, List.set_cons_zero, List.set_cons_succ]
                        refine wpAnyH_done (by kernel_rfl) ?_ _
                        have HB2 := Lib.hid (HB.out.trans (hHeld.1.mono HB.out.size))
                        clear hHeld
                        go_wp2_with fail
                        go_roundw
                        case rel =>
                          have Q : LqRel (flP X) (flP Y) k wS (.bool false) (.int .i64 ((i : Int) + 1)) wr.drew := ⟨⟨i + 1, false, HLT.out, by go_num, rfl, .inr ⟨rfl, HNE.out⟩, HB2.out⟩⟩
                          first | exact Q | ((repeat apply Exists.intro); exact ⟨Q, rfl⟩)
                        case measure => have := HLT.out; have := HK40.out; simp [intOf]; omega
                    · have HNE : Hid (flP X ≠ flP Y) := fun e => by
                        have h3 := HXX.out
                        rw [e, HYY.out] at h3
                        injection h3 with h4 _
                        exact h1 h4.symm
                      go_wp2_with fail
                      refine wp_region_held_drew (S := (fun w' => Below wr.heap.size wr w' ∧ w'.cell? ⟨b1, o1 + i * 2, none⟩ = some (.int .i64 x) ∧ w'.cell? ⟨b1, o1 + i * 2 + 1, none⟩ = some (.int .i64 q) ∧ w'.cell? ⟨b2, o2 + i * 2, none⟩ = some (.int .i64 y) ∧ w'.cell? ⟨b2, o2 + i * 2 + 1, none⟩ = some (.int .i64 r))) (by kernel_rfl) ?_ (fun hHeld => ?_)
                      · exact ⟨(Below.refl _ _).drew, d0, d1, e0, e1⟩
                      refine takeD (i := 0) (d := some 141) (v := ?_) _ rfl rfl (by kernel_rfl) (by kernel_rfl) (by kernel_rfl) (fun _ _ _ h => h) (by rfl) ?_ (by assumption) ?_
                      rotate_left
                      · (intro w hSw; (try dsimp only at hSw); go_simp) <;> with_reducible rfl
                      try simp only [Act.put, List.setIfInBounds_toArray, List.set_cons_zero, List.set_cons_succ]
                      refine takeD (i := 1) (d := some 142) (v := ?_) _ rfl rfl (by kernel_rfl) (by kernel_rfl) (by kernel_rfl) (fun _ _ _ h => h) (by rfl) ?_ (by assumption) ?_
                      rotate_left
                      · (intro w hSw; (try dsimp only at hSw); go_simp) <;> with_reducible rfl
                      try simp only [Act.put, List.setIfInBounds_toArray, List.set_cons_zero, List.set_cons_succ]
                      refine takeD (i := 2) (d := some 143) (v := ?_) _ rfl rfl (by kernel_rfl) (by kernel_rfl) (by kernel_rfl) (fun _ _ _ h => h) (by rfl) ?_ (by assumption) ?_
                      rotate_left
                      · (intro w hSw; (try dsimp only at hSw); go_simp) <;> with_reducible rfl
                      try simp only [Act.put, List.setIfInBounds_toArray, List.set_cons_zero, List.set_cons_succ]
                      refine takeD (i := 3) (d := some 144) (v := ?_) _ rfl rfl (by kernel_rfl) (by kernel_rfl) (by kernel_rfl) (fun _ _ _ h => h) (by rfl) ?_ (by assumption) ?_
                      rotate_left
                      · (intro w hSw; (try dsimp only at hSw); go_simp) <;> with_reducible rfl
                      try simp only [Act.put, List.setIfInBounds_toArray, List.set_cons_zero, List.set_cons_succ]
                      refine takeD (i := 4) (d := some 145) (v := ?_) _ rfl rfl (by kernel_rfl) (by kernel_rfl) (by kernel_rfl) (fun _ _ _ h => h) (by rfl) ?_ (by assumption) ?_
                      rotate_left
                      · (intro w hSw; (try dsimp only at hSw); go_simp) <;> with_reducible rfl
                      try simp only [Act.put, List.setIfInBounds_toArray, List.set_cons_zero, List.set_cons_succ]
                      refine takeD (i := 5) (d := some 146) (v := ?_) _ rfl rfl (by kernel_rfl) (by kernel_rfl) (by kernel_rfl) (fun _ _ _ h => h) (by rfl) ?_ (by assumption) ?_
                      rotate_left
                      · (intro w hSw; (try dsimp only at hSw); go_simp) <;> with_reducible rfl
                      try simp only [Act.put, List.setIfInBounds_toArray, List.set_cons_zero, List.set_cons_succ]
                      refine takeD (i := 6) (d := some 147) (v := ?_) _ rfl rfl (by kernel_rfl) (by kernel_rfl) (by kernel_rfl) (fun _ _ _ h => h) (by rfl) ?_ (by assumption) ?_
                      rotate_left
                      · (intro w hSw; (try dsimp only at hSw); go_simp) <;> with_reducible rfl
                      try simp only [Act.put, List.setIfInBounds_toArray, List.set_cons_zero, List.set_cons_succ]
                      refine takeD (i := 7) (d := some 148) (v := ?_) _ rfl rfl (by kernel_rfl) (by kernel_rfl) (by kernel_rfl) (fun _ _ _ h => h) (by rfl) ?_ (by assumption) ?_
                      rotate_left
                      · (intro w hSw; (try dsimp only at hSw); go_simp) <;> with_reducible rfl
                      try simp only [Act.put, List.setIfInBounds_toArray, List.set_cons_zero, List.set_cons_succ]
                      refine takeD (i := 8) (d := some 149) (v := ?_) _ rfl rfl (by kernel_rfl) (by kernel_rfl) (by kernel_rfl) (fun _ _ _ h => h) (by rfl) ?_ (by assumption) ?_
                      rotate_left
                      · (intro w hSw; (try dsimp only at hSw); go_simp) <;> with_reducible rfl
                      try simp only [Act.put, List.setIfInBounds_toArray, List.set_cons_zero, List.set_cons_succ]
                      refine takeD (i := 9) (d := some 16) (v := ?_) _ rfl rfl (by kernel_rfl) (by kernel_rfl) (by kernel_rfl) (fun _ _ _ h => h) (by rfl) ?_ (by assumption) ?_
                      rotate_left
                      · (intro w hSw; (try dsimp only at hSw); go_simp) <;> with_reducible rfl
                      try simp only [Act.put, List.setIfInBounds_toArray, List.set_cons_zero, List.set_cons_succ]
                      refine wpAnyH_done (by kernel_rfl) ?_ _
                      have HB2 := Lib.hid (HB.out.trans (hHeld.1.mono HB.out.size))
                      clear hHeld
                      go_wp2_with fail
                      go_roundw
                      case rel =>
                        have Q : LqRel (flP X) (flP Y) k wS (.bool false) (.int .i64 ((i : Int) + 1)) wr.drew := ⟨⟨i + 1, false, HLT.out, by go_num, rfl, .inr ⟨rfl, HNE.out⟩, HB2.out⟩⟩
                        first | exact Q | ((repeat apply Exists.intro); exact ⟨Q, rfl⟩)
                      case measure => have := HLT.out; have := HK40.out; simp [intOf]; omega
                  · have hiI : ¬ (i : Int) < (k : Int) := by omega
                    have HEQ : Hid (flP X = flP Y) := by
                      have h1 := HTK.out
                      have lx := D4.out.dx.len
                      have hl := HLEN.out
                      have hik := HI.out
                      rw [List.take_of_length_le (by omega), List.take_of_length_le (by omega)] at h1
                      exact h1
                    clear hik
                    have EXY : Hid (eqL X Y = true) := by unfold Hid; rw [eqL_fl]; exact decide_eq_true HEQ.out
                    have EYX : Hid (eqL Y X = true) := by unfold Hid; rw [eqL_fl]; exact decide_eq_true HEQ.out.symm
                    go_wp2_with fail
                    refine (known_any wr).mono ?_
                    rintro e w5 ⟨rfl, b5⟩
                    have D5 := Lib.hid (D4.out.below b5)
                    clear b5 D4
                    go_wp2_with fail
                    refine (same_any gx gz rx rz X Z w5 D5.out.dx.lf SMX.out D5.out.lz SMZ.out).mono ?_
                    rintro e w6 ⟨rfl, b6⟩
                    rw [EXZ.out]
                    have D6 := Lib.hid (D5.out.below b6)
                    clear b6 D5
                    go_wp2_with fail
                    refine (same_any gx gy rx ry X Y w6 D6.out.dx.lf SMX.out D6.out.dy.lf SMY.out).mono ?_
                    rintro e w7 ⟨rfl, b7⟩
                    rw [EXY.out]
                    have D7 := Lib.hid (D6.out.below b7)
                    clear b7 D6
                    go_wp2_with fail
                    refine (same_any gy gx ry rx Y X w7 D7.out.dy.lf SMY.out D7.out.dx.lf SMX.out).mono ?_
                    rintro e w8 ⟨rfl, b8⟩
                    rw [EYX.out]
                    have D8 := Lib.hid (D7.out.below b8)
                    clear b8 D7
                    go_wp2_with fail
                    go_ret
                    exact ⟨rfl, D8.out.dx.bel⟩
                · have HEQ : Hid (flP X ≠ flP Y) := hne
                  clear hne
                  by_cases hik : i < k
                  · have hiI : (i : Int) < (k : Int) := by omega
                    have EXY : Hid (eqL X Y = false) := by unfold Hid; rw [eqL_fl]; exact decide_eq_false HEQ.out
                    have EYX : Hid (eqL Y X = false) := by unfold Hid; rw [eqL_fl]; exact decide_eq_false (fun e => HEQ.out e.symm)
                    go_wp2_with fail
                    refine (known_any wr).mono ?_
                    rintro e w5 ⟨rfl, b5⟩
                    have D5 := Lib.hid (D4.out.below b5)
                    clear b5 D4
                    go_wp2_with fail
                    refine (same_any gx gz rx rz X Z w5 D5.out.dx.lf SMX.out D5.out.lz SMZ.out).mono ?_
                    rintro e w6 ⟨rfl, b6⟩
                    rw [EXZ.out]
                    have D6 := Lib.hid (D5.out.below b6)
                    clear b6 D5
                    go_wp2_with fail
                    refine (same_any gx gy rx ry X Y w6 D6.out.dx.lf SMX.out D6.out.dy.lf SMY.out).mono ?_
                    rintro e w7 ⟨rfl, b7⟩
                    rw [EXY.out]
                    have D7 := Lib.hid (D6.out.below b7)
                    clear b7 D6
                    go_wp2_with fail
                    refine (same_any gy gx ry rx Y X w7 D7.out.dy.lf SMY.out D7.out.dx.lf SMX.out).mono ?_
                    rintro e w8 ⟨rfl, b8⟩
                    rw [EYX.out]
                    have D8 := Lib.hid (D7.out.below b8)
                    clear b8 D7
                    go_wp2_with fail
                    go_ret
                    exact ⟨rfl, D8.out.dx.bel⟩
                  · have hiI : ¬ (i : Int) < (k : Int) := by omega
                    have EXY : Hid (eqL X Y = false) := by unfold Hid; rw [eqL_fl]; exact decide_eq_false HEQ.out
                    have EYX : Hid (eqL Y X = false) := by unfold Hid; rw [eqL_fl]; exact decide_eq_false (fun e => HEQ.out e.symm)
                    go_wp2_with fail
                    refine (known_any wr).mono ?_
                    rintro e w5 ⟨rfl, b5⟩
                    have D5 := Lib.hid (D4.out.below b5)
                    clear b5 D4
                    go_wp2_with fail
                    refine (same_any gx gz rx rz X Z w5 D5.out.dx.lf SMX.out D5.out.lz SMZ.out).mono ?_
                    rintro e w6 ⟨rfl, b6⟩
                    rw [EXZ.out]
                    have D6 := Lib.hid (D5.out.below b6)
                    clear b6 D5
                    go_wp2_with fail
                    refine (same_any gx gy rx ry X Y w6 D6.out.dx.lf SMX.out D6.out.dy.lf SMY.out).mono ?_
                    rintro e w7 ⟨rfl, b7⟩
                    rw [EXY.out]
                    have D7 := Lib.hid (D6.out.below b7)
                    clear b7 D6
                    go_wp2_with fail
                    refine (same_any gy gx ry rx Y X w7 D7.out.dy.lf SMY.out D7.out.dx.lf SMX.out).mono ?_
                    rintro e w8 ⟨rfl, b8⟩
                    rw [EYX.out]
                    have D8 := Lib.hid (D7.out.below b8)
                    clear b8 D7
                    go_wp2_with fail
                    go_ret
                    exact ⟨rfl, D8.out.dx.bel⟩
end Go.Proofs.Ytbkjcjkbicaibaa
