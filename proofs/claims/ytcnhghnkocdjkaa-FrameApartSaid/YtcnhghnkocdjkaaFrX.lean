/-
  Contracts of the reference's At and Of. Each statement bears its own conditions.
-/
import Derived.Test.YtcnhghnkocdjkaaFrR
import Derived.Test.YtcnhghnkocdjkaaFrW
namespace Go.Proofs.Ytcnhghnkocdjkaa
open Go.RowKit
set_option linter.unusedVariables false
set_option linter.unusedSimpArgs false
structure RAtRel (fr tick : Int) (n : Nat) (ws : List MW) (w : World) (v7 v8 : Value) (wr : World) : Prop where
  ex : ∃ (j : Nat) (kk : Int), j ≤ n ∧ v8 = .int .i64 kk ∧ kk = (j : Int) - 1 ∧ v7 = .int .i64 (nextF fr tick (ws.drop j)) ∧ wr = w
set_option maxRecDepth 100000 in
set_option maxHeartbeats 4000000 in
theorem rat_any (fr tick : Int) (v : Value) (ws : List MW) (w : World) (h : Row w 3 RW v ws) (ht : I64 tick) :
    Calls Try.prog 12 #[.agg #[.int .i64 fr, v], .int .i64 tick] w fun e w' => e = .returned (.tuple #[.int .i64 (atW fr tick ws).1, .int .i64 (atW fr tick ws).2]) ∧ Below w.heap.size w w' := by
  obtain ⟨a, cap, rfl, hm⟩ := h.form
  obtain ⟨n, hn⟩ : ∃ n, ws.length = n := ⟨_, rfl⟩
  have CK := Lib.hid fun (W : World) (hb : Below w.heap.size w W) => rcheck_any fr (.slice a ws.length cap) ws W (h.below hb)
  have AR := Lib.hid fun (W : World) (hb : Below w.heap.size w W) (h1 : fr ≤ 1048576) (h2 : Ord fr 0 ws) (h3 : ws.length ≤ 64) => rwindow_any fr tick (.slice a ws.length cap) ws W (h.below hb) h1 h2 h3
  obtain ⟨c, hc⟩ : ∃ c, chk fr ws = c := ⟨_, rfl⟩
  rw [hn] at CK AR h ⊢
  rw [hc] at CK
  obtain ⟨p, q, hp⟩ : ∃ p q, atW fr tick ws = (p, q) := ⟨_, _, rfl⟩
  rw [hp]
  dsimp only
  unfold atW at hp
  rw [hc] at hp
  obtain ⟨W0, hW0⟩ : ∃ W0, w.alloc (.cells #[.int .i64 fr, .slice a n cap] 28) = W0 := ⟨_, rfl⟩
  have BW : Hid (Below w.heap.size w W0) := by rw [← hW0]; exact (Below.refl _ _).alloc (Nat.le_refl _) _
  have d0 : W0.cell? ⟨w.heap.size, 0, none⟩ = some (.int .i64 fr) := by rw [← hW0]; simp
  have d1 : W0.cell? ⟨w.heap.size, 1, none⟩ = some (.slice a n cap) := by rw [← hW0]; simp
  have C1 := Lib.hid (CK.out W0 BW.out)
  have HN := Lib.hid hn
  have H := Lib.hid h
  clear CK hn h hm
  by_cases hc0 : c = 0
  rotate_left
  · have hcb : (c == 0) = false := by simpa using hc0
    have hcc : (c != 0) = true := by simpa using hc0
    rw [if_neg hc0] at hp
    injection hp with hp1 hp2
    subst hp1 hp2
    go_enter Try.func12, Try.ntmps12
    go_wp2_with fail
    refine C1.out.mono ?_
    rintro e W1 ⟨rfl, b1⟩
    go_wp2_with fail
    go_ret2
    exact ⟨rfl, BW.out.trans (b1.mono BW.out.size)⟩
  rw [if_pos hc0] at hp
  by_cases ht0 : 0 ≤ tick
  rotate_left
  · rw [if_neg ht0] at hp
    injection hp with hp1 hp2
    subst hp1 hp2
    subst hc0
    go_enter Try.func12, Try.ntmps12
    go_wp2_with fail
    refine C1.out.mono ?_
    rintro e W1 ⟨rfl, b1⟩
    go_wp2_with fail
    go_ret2
    exact ⟨rfl, BW.out.trans (b1.mono BW.out.size)⟩
  rw [if_pos ht0] at hp
  by_cases ht1 : tick < fr
  rotate_left
  · rw [if_neg ht1] at hp
    injection hp with hp1 hp2
    subst hp1 hp2
    subst hc0
    go_enter Try.func12, Try.ntmps12
    go_wp2_with fail
    refine C1.out.mono ?_
    rintro e W1 ⟨rfl, b1⟩
    have e0 := cell_later b1 d0
    go_wp2_with fail
    go_ret2
    exact ⟨rfl, BW.out.trans (b1.mono BW.out.size)⟩
  rw [if_pos ht1] at hp
  subst hc0
  obtain ⟨f1, f2, f3, f4⟩ := chk_zero hc
  have HA := Lib.hid (arnd_cases (tick := tick) (k := 0) f4)
  have HORD := Lib.hid f4
  have HTK : Hid (0 ≤ tick ∧ tick < fr ∧ fr ≤ 1048576) := ⟨ht0, ht1, f2⟩
  obtain ⟨r, hr⟩ : ∃ r, winI tick ws 0 = r := ⟨_, rfl⟩
  rw [hr] at AR HA
  have C2 := Lib.hid fun (W : World) (hb : Below w.heap.size w W) => AR.out W hb f2 f4 (by have := HN.out; omega)
  have HP := Lib.hid hp
  have HN64 : n ≤ 64 := by have := HN.out; omega
  clear AR f1 f2 f3 f4 hc hr hp
  go_enter Try.func12, Try.ntmps12
  go_wp2_with fail
  refine C1.out.mono ?_
  rintro e W1 ⟨rfl, b1⟩
  have e0 := cell_later b1 d0
  have e1 := cell_later b1 d1
  have B1 : Hid (Below w.heap.size w W1) := BW.out.trans (b1.mono BW.out.size)
  clear b1 d0 d1 C1 hW0
  go_wp2_with fail
  refine (C2.out W1 B1.out).mono ?_
  rintro e W2 ⟨rfl, b2⟩
  have B2 : Hid (Below w.heap.size w W2) := B1.out.trans (b2.mono B1.out.size)
  have k0 := cell_later b2 e0
  have k1 := cell_later b2 e1
  clear b2 e0 e1
  rcases HA.out with ⟨hr, hX, hnx⟩ | ⟨i, hr, hX, hlo, hhi⟩
  · subst hr
    go_wp2_with fail
    go_loopw [7, 8] (fun v7 v8 wr => RAtRel fr tick n ws W2 v7 v8 wr) (fun _ v8 => fun _ => (intOf v8 + 1).toNat)
    case atStart =>
      have Q : RAtRel fr tick n ws W2 (.int .i64 fr) (.int .i64 ((n : Int) - 1)) W2 := ⟨⟨n, _, Nat.le_refl _, rfl, rfl, by rw [List.drop_of_length_le (by have := HN.out; omega)]; rfl, rfl⟩⟩
      have hwn : wrap64 ((n : Int) - 1) = (n : Int) - 1 := IntWalk.wrap64_in _ (by omega)
      first | exact Q | (simp only [hwn]; exact Q)
    case round =>
      obtain ⟨⟨j, kk, hj, rfl, hkk, rfl, rfl⟩⟩ := hrel
      rcases Nat.eq_zero_or_pos j with hj0 | hj0
      · have hkk' : kk = -1 := by omega
        subst hkk'
        have HZ : Hid (p = -1 ∧ q = nextF fr tick (ws.drop j) - tick) := by
          have h0 := HP.out
          rw [hX] at h0
          dsimp only at h0
          injection h0 with h1 h2
          subst hj0
          exact ⟨h1.symm, by rw [List.drop_zero]; omega⟩
        have HNX := Lib.hid hnx
        obtain ⟨y, hy⟩ : ∃ y, nextF fr tick (ws.drop j) = y := ⟨_, rfl⟩
        have hy2 : nextF fr tick ws = y := by rw [← hy, hj0]; rfl
        rw [hy] at HZ ⊢
        have hwr : IntKind.i64.wrap (y - tick) = y - tick := wrap_ok (by have := HTK.out; have := HNX.out HTK.out.2.1; omega) (by have := HTK.out; have := HNX.out HTK.out.2.1; omega)
        clear hnx hX hkk hj0 hj hy hy2
        go_wp2_with fail
        go_ret2
        exact ⟨by rw [HZ.out.1, HZ.out.2]; rfl, B2.out⟩
      · obtain ⟨k, rfl⟩ : ∃ k, j = k + 1 := ⟨j - 1, by omega⟩
        have hkk' : kk = (k : Int) := by omega
        subst hkk'
        have hlt : k < n := by omega
        have hkI : (k : Int) < (n : Int) := by omega
        have HX : Hid (k < n) := hlt
        obtain ⟨hnx', b, off, x, cs, rfl, hbl, hx, hR, _, hc⟩ := H.out.at_ k hlt
        clear hnx'
        have hdr := drop_cons hx
        obtain ⟨xw, xf, xl⟩ := x
        obtain ⟨rfl, hi0, hi1, hi2⟩ := hR
        have d1 : wr.cell? ⟨b, off + k * 3 + 1, none⟩ = some (.int .i64 xf) := cell_later B2.out (hc 1 _ rfl)
        have hwk : IntKind.i64.wrap ((k : Int) - 1) = (k : Int) - 1 := wrap_ok (by omega) (by omega)
        have hstep : Hid (nextF fr tick (ws.drop k) = if tick < xf then xf else nextF fr tick (ws.drop (k + 1))) := by
          unfold Hid; rw [hdr]; rfl
        obtain ⟨y, hy⟩ : ∃ y, nextF fr tick (ws.drop (k + 1)) = y := ⟨_, rfl⟩
        rw [hy] at hstep ⊢
        clear hi0 hi1 hi2 hbl hx hlt hdr hc hj hkk hnx hX hy
        by_cases h1 : tick < xf
        · have HZ : Hid (nextF fr tick (ws.drop k) = xf) := by unfold Hid; rw [hstep.out, if_pos h1]
          go_wp2_with fail
          go_roundw
          case rel =>
            have Q : RAtRel fr tick n ws wr (.int .i64 xf) (.int .i64 ((k : Int) - 1)) wr := ⟨⟨k, _, by have := HX.out; omega, rfl, rfl, by rw [HZ.out], rfl⟩⟩
            first | exact Q | ((repeat apply Exists.intro); exact ⟨Q, rfl⟩)
          case measure => have := HX.out; (simp [intOf] at *) <;> omega
        · have HZ : Hid (nextF fr tick (ws.drop k) = y) := by unfold Hid; rw [hstep.out, if_neg h1]
          go_wp2_with fail
          go_roundw
          case rel =>
            have Q : RAtRel fr tick n ws wr (.int .i64 y) (.int .i64 ((k : Int) - 1)) wr := ⟨⟨k, _, by have := HX.out; omega, rfl, rfl, by rw [HZ.out], rfl⟩⟩
            first | exact Q | ((repeat apply Exists.intro); exact ⟨Q, rfl⟩)
          case measure => have := HX.out; (simp [intOf] at *) <;> omega
  · rw [Nat.zero_add] at hr
    subst hr
    have hil : i < n := by have := (List.getElem?_eq_some_iff.1 hX).1; have := HN.out; omega
    have hiI : (i : Int) < (n : Int) := by omega
    have HPP := HP.out
    have hmm := HORD.out.mem _ (List.mem_of_getElem? hX)
    obtain ⟨hnx', b, off, x, cs, rfl, hbl, hx, hR, _, hc⟩ := H.out.at_ i hil
    clear hnx'
    rw [hX] at hx
    injection hx with hx
    rw [hx] at HPP hlo hhi hmm
    clear hx hX
    obtain ⟨xw, xf, xl⟩ := x
    obtain ⟨rfl, hi0, hi1, hi2⟩ := hR
    dsimp only at HPP hlo hhi hmm
    injection HPP with hp1 hp2
    subst hp1 hp2
    have d0 : W2.cell? ⟨b, off + i * 3, none⟩ = some (.int .i64 xw) := cell_later B2.out (hc 0 _ rfl)
    have d1 : W2.cell? ⟨b, off + i * 3 + 1, none⟩ = some (.int .i64 xf) := cell_later B2.out (hc 1 _ rfl)
    have d2 : W2.cell? ⟨b, off + i * 3 + 2, none⟩ = some (.int .i64 xl) := cell_later B2.out (hc 2 _ rfl)
    have hw1 : IntKind.i64.wrap (xf + xl) = xf + xl := wrap_ok (by omega) (by have := HTK.out; omega)
    have hw2 : IntKind.i64.wrap (xf + xl - tick) = xf + xl - tick := wrap_ok (by have := HTK.out; omega) (by have := HTK.out; omega)
    clear hi0 hi1 hi2 hbl hc hlo hhi hmm HP hil
    go_wp2_with fail
    refine wp_region_held_drew (S := (fun w' => Below w.heap.size w w' ∧ w'.cell? ⟨w.heap.size, 0, none⟩ = some (.int .i64 fr) ∧ w'.cell? ⟨w.heap.size, 1, none⟩ = some (.slice (some ⟨b, off, none⟩) n cap) ∧ w'.cell? ⟨b, off + i * 3, none⟩ = some (.int .i64 xw) ∧ w'.cell? ⟨b, off + i * 3 + 1, none⟩ = some (.int .i64 xf) ∧ w'.cell? ⟨b, off + i * 3 + 2, none⟩ = some (.int .i64 xl))) (by kernel_rfl) ?_ (fun hHeld => ?_)
    · exact ⟨below_drewN B2.out 1, k0, k1, d0, d1, d2⟩
    refine takeD (i := 0) (d := some 27) (v := ?_) _ rfl rfl (by kernel_rfl) (by kernel_rfl) (by kernel_rfl) (fun _ _ _ h => h) (by rfl) ?_ (by assumption) ?_
    rotate_left
    · (intro w hSw; (try dsimp only at hSw); go_simp) <;> with_reducible rfl
    try simp only [Act.put, List.setIfInBounds_toArray, List.set_cons_zero, List.set_cons_succ]
    refine takeD (i := 1) (d := some 28) (v := ?_) _ rfl rfl (by kernel_rfl) (by kernel_rfl) (by kernel_rfl) (fun _ _ _ h => h) (by rfl) ?_ (by assumption) ?_
    rotate_left
    · (intro w hSw; (try dsimp only at hSw); go_simp) <;> with_reducible rfl
    try simp only [Act.put, List.setIfInBounds_toArray, List.set_cons_zero, List.set_cons_succ]
    refine takeD (i := 2) (d := some 29) (v := ?_) _ rfl rfl (by kernel_rfl) (by kernel_rfl) (by kernel_rfl) (fun _ _ _ h => h) (by rfl) ?_ (by assumption) ?_
    rotate_left
    · (intro w hSw; (try dsimp only at hSw); go_simp) <;> with_reducible rfl
    try simp only [Act.put, List.setIfInBounds_toArray, List.set_cons_zero, List.set_cons_succ]
    refine takeD (i := 3) (d := some 30) (v := ?_) _ rfl rfl (by kernel_rfl) (by kernel_rfl) (by kernel_rfl) (fun _ _ _ h => h) (by rfl) ?_ (by assumption) ?_
    rotate_left
    · (intro w hSw; (try dsimp only at hSw); go_simp) <;> with_reducible rfl
    try simp only [Act.put, List.setIfInBounds_toArray, List.set_cons_zero, List.set_cons_succ]
    refine takeD (i := 4) (d := some 31) (v := ?_) _ rfl rfl (by kernel_rfl) (by kernel_rfl) (by kernel_rfl) (fun _ _ _ h => h) (by rfl) ?_ (by assumption) ?_
    rotate_left
    · (intro w hSw; (try dsimp only at hSw); go_simp) <;> with_reducible rfl
    try simp only [Act.put, List.setIfInBounds_toArray, List.set_cons_zero, List.set_cons_succ]
    refine takeD (i := 5) (d := some 32) (v := ?_) _ rfl rfl (by kernel_rfl) (by kernel_rfl) (by kernel_rfl) (fun _ _ _ h => h) (by rfl) ?_ (by assumption) ?_
    rotate_left
    · (intro w hSw; (try dsimp only at hSw); go_simp) <;> with_reducible rfl
    try simp only [Act.put, List.setIfInBounds_toArray, List.set_cons_zero, List.set_cons_succ]
    refine takeD (i := 6) (d := some 33) (v := ?_) _ rfl rfl (by kernel_rfl) (by kernel_rfl) (by kernel_rfl) (fun _ _ _ h => h) (by rfl) ?_ (by assumption) ?_
    rotate_left
    · (intro w hSw; (try dsimp only at hSw); go_simp) <;> with_reducible rfl
    try simp only [Act.put, List.setIfInBounds_toArray, List.set_cons_zero, List.set_cons_succ]
    refine takeD (i := 7) (d := some 34) (v := ?_) _ rfl rfl (by kernel_rfl) (by kernel_rfl) (by kernel_rfl) (fun _ _ _ h => h) (by rfl) ?_ (by assumption) ?_
    rotate_left
    · (intro w hSw; (try dsimp only at hSw); go_simp) <;> with_reducible rfl
    try simp only [Act.put, List.setIfInBounds_toArray, List.set_cons_zero, List.set_cons_succ]
    refine takeD (i := 8) (d := some 35) (v := ?_) _ rfl rfl (by kernel_rfl) (by kernel_rfl) (by kernel_rfl) (fun _ _ _ h => h) (by rfl) ?_ (by assumption) ?_
    rotate_left
    · (intro w hSw; (try dsimp only at hSw); go_simp) <;> with_reducible rfl
    try simp only [Act.put, List.setIfInBounds_toArray, List.set_cons_zero, List.set_cons_succ]
    refine takeD (i := 9) (d := some 36) (v := ?_) _ rfl rfl (by kernel_rfl) (by kernel_rfl) (by kernel_rfl) (fun _ _ _ h => h) (by rfl) ?_ (by assumption) ?_
    rotate_left
    · (intro w hSw; (try dsimp only at hSw); go_simp) <;> with_reducible rfl
    try simp only [Act.put, List.setIfInBounds_toArray, List.set_cons_zero, List.set_cons_succ]
    refine takeD (i := 10) (d := some 37) (v := ?_) _ rfl rfl (by kernel_rfl) (by kernel_rfl) (by kernel_rfl) (fun _ _ _ h => h) (by rfl) ?_ (by assumption) ?_
    rotate_left
    · (intro w hSw; (try dsimp only at hSw); go_simp) <;> with_reducible rfl
    try simp only [Act.put, List.setIfInBounds_toArray, List.set_cons_zero, List.set_cons_succ]
    refine takeD (i := 11) (d := some 38) (v := ?_) _ rfl rfl (by kernel_rfl) (by kernel_rfl) (by kernel_rfl) (fun _ _ _ h => h) (by rfl) ?_ (by assumption) ?_
    rotate_left
    · (intro w hSw; (try dsimp only at hSw); go_simp) <;> with_reducible rfl
    try simp only [Act.put, List.setIfInBounds_toArray, List.set_cons_zero, List.set_cons_succ]
    refine takeD (i := 12) (d := some 39) (v := ?_) _ rfl rfl (by kernel_rfl) (by kernel_rfl) (by kernel_rfl) (fun _ _ _ h => h) (by rfl) ?_ (by assumption) ?_
    rotate_left
    · (intro w hSw; (try dsimp only at hSw); go_simp) <;> with_reducible rfl
    try simp only [Act.put, List.setIfInBounds_toArray, List.set_cons_zero, List.set_cons_succ]
    refine takeD (i := 13) (d := some 40) (v := ?_) _ rfl rfl (by kernel_rfl) (by kernel_rfl) (by kernel_rfl) (fun _ _ _ h => h) (by rfl) ?_ (by assumption) ?_
    rotate_left
    · (intro w hSw; (try dsimp only at hSw); go_simp) <;> with_reducible rfl
    try simp only [Act.put, List.setIfInBounds_toArray, List.set_cons_zero, List.set_cons_succ]
    refine takeD (i := 14) (d := some 41) (v := ?_) _ rfl rfl (by kernel_rfl) (by kernel_rfl) (by kernel_rfl) (fun _ _ _ h => h) (by rfl) ?_ (by assumption) ?_
    rotate_left
    · (intro w hSw; (try dsimp only at hSw); go_simp) <;> with_reducible rfl
    try simp only [Act.put, List.setIfInBounds_toArray, List.set_cons_zero, List.set_cons_succ]
    refine takeD (i := 15) (d := some 42) (v := ?_) _ rfl rfl (by kernel_rfl) (by kernel_rfl) (by kernel_rfl) (fun _ _ _ h => h) (by rfl) ?_ (by assumption) ?_
    rotate_left
    · (intro w hSw; (try dsimp only at hSw); go_simp) <;> with_reducible rfl
    try simp only [Act.put, List.setIfInBounds_toArray, List.set_cons_zero, List.set_cons_succ]
    refine takeD (i := 16) (d := some 43) (v := ?_) _ rfl rfl (by kernel_rfl) (by kernel_rfl) (by kernel_rfl) (fun _ _ _ h => h) (by rfl) ?_ (by assumption) ?_
    rotate_left
    · (intro w hSw; (try dsimp only at hSw); go_simp) <;> with_reducible rfl
    try simp only [Act.put, List.setIfInBounds_toArray, List.set_cons_zero, List.set_cons_succ]
    refine takeD (i := 17) (d := some 44) (v := ?_) _ rfl rfl (by kernel_rfl) (by kernel_rfl) (by kernel_rfl) (fun _ _ _ h => h) (by rfl) ?_ (by assumption) ?_
    rotate_left
    · (intro w hSw; (try dsimp only at hSw); go_simp) <;> with_reducible rfl
    try simp only [Act.put, List.setIfInBounds_toArray, List.set_cons_zero, List.set_cons_succ]
    refine takeD (i := 18) (d := some 45) (v := ?_) _ rfl rfl (by kernel_rfl) (by kernel_rfl) (by kernel_rfl) (fun _ _ _ h => h) (by rfl) ?_ (by assumption) ?_
    rotate_left
    · (intro w hSw; (try dsimp only at hSw); go_simp) <;> with_reducible rfl
    try simp only [Act.put, List.setIfInBounds_toArray, List.set_cons_zero, List.set_cons_succ]
    refine takeD (i := 19) (d := some 46) (v := ?_) _ rfl rfl (by kernel_rfl) (by kernel_rfl) (by kernel_rfl) (fun _ _ _ h => h) (by rfl) ?_ (by assumption) ?_
    rotate_left
    · (intro w hSw; (try dsimp only at hSw); go_simp) <;> with_reducible rfl
    try simp only [Act.put, List.setIfInBounds_toArray, List.set_cons_zero, List.set_cons_succ]
    refine takeD (i := 20) (d := some 47) (v := ?_) _ rfl rfl (by kernel_rfl) (by kernel_rfl) (by kernel_rfl) (fun _ _ _ h => h) (by rfl) ?_ (by assumption) ?_
    rotate_left
    · (intro w hSw; (try dsimp only at hSw); go_simp) <;> with_reducible rfl
    try simp only [Act.put, List.setIfInBounds_toArray, List.set_cons_zero, List.set_cons_succ]
    refine takeD (i := 21) (d := some 4) (v := ?_) _ rfl rfl (by kernel_rfl) (by kernel_rfl) (by kernel_rfl) (fun _ _ _ h => h) (by rfl) ?_ (by assumption) ?_
    rotate_left
    · (intro w hSw; (try dsimp only at hSw); go_simp) <;> with_reducible rfl
    try simp only [Act.put, List.setIfInBounds_toArray, List.set_cons_zero, List.set_cons_succ]
    refine takeD (i := 22) (d := some 5) (v := ?_) _ rfl rfl (by kernel_rfl) (by kernel_rfl) (by kernel_rfl) (fun _ _ _ h => h) (by rfl) ?_ (by assumption) ?_
    rotate_left
    · (intro w hSw; (try dsimp only at hSw); go_simp) <;> with_reducible rfl
    try simp only [Act.put, List.setIfInBounds_toArray, List.set_cons_zero, List.set_cons_succ]
    refine wpAnyH_done (by kernel_rfl) ?_ _
    have BF := Lib.hid hHeld.1
    have BK0 := Lib.hid hHeld.2.1
    have BK1 := Lib.hid hHeld.2.2.1
    clear hHeld
    go_wp2_with fail
    go_ret2
    exact ⟨rfl, BF.out⟩
end Go.Proofs.Ytcnhghnkocdjkaa
