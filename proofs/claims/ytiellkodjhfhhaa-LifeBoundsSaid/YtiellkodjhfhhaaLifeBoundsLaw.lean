/-
  LifeBounds' walk. Each statement bears its own conditions.
-/
import Derived.Test.YtiellkodjhfhhaaLfP
namespace Go.Proofs.Ytiellkodjhfhhaa.Lf
open Go.RowKit Go.Proofs.Ytiellkodjhfhhaa.F 
set_option linter.unusedVariables false
set_option linter.unusedSimpArgs false
theorem do_more (s : LS) (a : Int) : (doA s a = true → (doS s a).starts = s.starts + 1 ∧ (doS s a).left = s.left - 1 ∧ s.left ≠ 0) ∧ (doA s a = false → (doS s a).starts = s.starts ∧ (doS s a).left = s.left) ∧ (s.mode = 0 → (doS s a).mode = 0) := by
  unfold doA doS
  refine ⟨?_, ?_, ?_⟩
  · split
    · intro h; cases h
    split
    · intro h; cases h
    split
    · intro h; cases h
    split
    · intro h; cases h
    · rename_i h; intro _; exact ⟨rfl, rfl, h⟩
  · split
    · intro _; exact ⟨rfl, rfl⟩
    split
    · intro _; exact ⟨rfl, rfl⟩
    split
    · intro _; exact ⟨rfl, rfl⟩
    split
    · intro _; exact ⟨rfl, rfl⟩
    · intro h; cases h
  · intro h
    split
    · exact h
    first | exact h | (rw [if_pos h]; exact h)
theorem run_more (s : LS) : (runS s).starts = s.starts ∧ (runS s).left = s.left ∧ (s.mode = 0 → (runS s).mode = 0) := by
  unfold runS
  split
  · rename_i h; exact ⟨rfl, rfl, fun h0 => by omega⟩
  · exact ⟨rfl, rfl, fun h => h⟩
structure BR (lo len : Nat) (n : Int) (w0 : World) (cv dv iv : Value) (wr : World) : Prop where
  ex : ∃ (j : Nat) (c : Int) (s : LS), j ≤ len ∧ cv = .int .i64 c ∧ dv = .bool (s.mode == 0) ∧ iv = .int .i64 (j : Int) ∧ LV wr lo s ∧ s.starts = c ∧ s.left = n - c ∧ Below lo w0 wr
set_option maxRecDepth 100000 in
set_option maxHeartbeats 8000000 in
theorem bounds_walk (a0 : Int) (a1 : Option Addr) (len cap : Nat) (zs : List Int) (w : World) (h1 : IsRow .i64 w a1 len cap zs) : Calls Try.prog 4 #[.int .i64 a0, .slice a1 len cap] w fun e w' => e = .returned (.bool true) ∧ Below w.heap.size w w' := by
  have HR := Lib.hid h1
  clear h1
  have he := he_li
  obtain ⟨lo, hlo⟩ : ∃ lo, w.heap.size = lo := ⟨_, rfl⟩
  have HLO := Lib.hid hlo
  obtain ⟨n, hn⟩ : ∃ x, (IntKind.u64.wrap a0).tmod 20 = x := ⟨_, rfl⟩
  have b1 := u64_tmod a0 20 (by decide)
  rw [hn] at b1
  have HNN : Hid (0 ≤ n ∧ n < 20) := b1
  have v1 : IntKind.i64.wrap n = n := IntWalk.i64_in _ ⟨by omega, by omega⟩
  have NW := Lib.hid (new_any n w (by unfold newI; omega))
  rw [hlo] at NW ⊢
  clear hlo b1
  go_enter Try.func4, Try.ntmps4
  go_wp2_with fail
  refine NW.out.mono ?_
  rintro e w1 ⟨rfl, q1, b1⟩
  have Q1 : Hid (LV w1 lo ⟨1, n, 0⟩) := q1
  have B1 : Hid (Below lo w w1) := b1
  clear q1 b1 NW hn v1
  go_wp2_with fail
  refine (told_any w1).mono ?_
  rintro e w2 ⟨rfl, b2⟩
  have Q2 := Lib.hid (Q1.out.below b2)
  have B2 : Hid (Below lo w w2) := B1.out.trans (b2.mono (by have := Q1.out.lt; omega))
  clear b2 Q1 B1
  go_upto_block 0 with fail
  go_cut [8, 9, 10] (fun cx dx ix wx => Below lo w wx)
  case first =>
    go_wp2_with fail
    go_loopw [8, 9, 10] (fun cv dv iv wr => BR lo len n w cv dv iv wr) (fun _ _ i _ => len - (intOf i).toNat)
    case atStart => exact ⟨⟨0, 0, ⟨1, n, 0⟩, Nat.zero_le _, rfl, rfl, rfl, Q2.out, rfl, by simp, B2.out⟩⟩
    case round =>
      clear Q2 B2
      obtain ⟨⟨j, c, s, hj, rfl, rfl, rfl, hq, hc1, hc2, hb⟩⟩ := hrel
      have HQ := Lib.hid hq
      have HB := Lib.hid hb
      have HC1 : Hid (s.starts = c ∧ s.left = n - c) := ⟨hc1, hc2⟩
      clear hq hb hc1 hc2
      by_cases hlt : j < len
      rotate_left
      · have g0 : decide ((j : Int) < (len : Int)) = false := by simp; omega
        have hjI : ¬ (j : Int) < (len : Int) := by omega
        clear hlt hj
        go_wp2_with fail
        go_meet
        exact HB.out
      by_cases h150 : j < 150
      rotate_left
      · have g0 : decide ((j : Int) < (len : Int)) = true := by simp; omega
        have hjI : (j : Int) < (len : Int) := by omega
        have hcI : ¬ (j : Int) < 150 := by omega
        have g3 : decide ((j : Int) < 150) = false := by simp; omega
        clear hlt hj h150
        go_wp2_with fail
        go_meet
        exact HB.out
      have g0 : decide ((j : Int) < (len : Int)) = true := by simp; omega
      have g3 : decide ((j : Int) < 150) = true := by simp; omega
      have hcI : (j : Int) < 150 := by omega
      have hjI : (j : Int) < (len : Int) := by omega
      have HX : Hid (j < len) := hlt
      obtain ⟨b, off, hA, hc⟩ := row_at HR.out (show 0 < len by omega)
      subst hA
      obtain ⟨z, hz⟩ : ∃ x, zs.getD j 0 = x := ⟨_, rfl⟩
      have hc0 := (hc j hlt).1
      rw [hz] at hc0
      have z0 : wr.cell? ⟨b, off + j, none⟩ = some (.int .i64 z) := (HB.out.cell (by show b < lo; rw [← HLO.out]; exact World.block_lt_of_cell? _ _ hc0)).trans hc0
      obtain ⟨d, hd⟩ : ∃ x, (IntKind.u64.wrap z).tmod 4 = x := ⟨_, rfl⟩
      have bd := u64_tmod z 4 (by decide)
      rw [hd] at bd
      have hdc : d = 0 ∨ d = 1 ∨ d = 2 ∨ d = 3 := by omega
      clear hc hc0 hz hlt hj h150 bd
      rcases hdc with rfl | rfl | rfl | rfl
      · go_wp2_with fail
        refine (do_any lo s 4 wr HQ.out).mono ?_
        rintro e w5 ⟨rfl, q5, f5⟩
        have B5 : Hid (Below lo w w5) := HB.out.trans (f5.below (fun b hb => by rw [hb]; exact Nat.le_refl _) (by have := HQ.out.lt; omega))
        have DM := do_more s 4
        obtain ⟨s2, hs2⟩ : ∃ x, doS s 4 = x := ⟨_, rfl⟩
        obtain ⟨an, han⟩ : ∃ x, doA s 4 = x := ⟨_, rfl⟩
        have Q5 : Hid (LV w5 lo s2) := by rw [← hs2]; exact q5
        rw [hs2, han] at DM
        rw [hs2, han]
        have DM := Lib.hid DM
        clear q5 f5 hs2 han z0 hd HB HQ
        cases an
        · have HS : Hid (s2.starts = c ∧ s2.left = n - c ∧ (s.mode = 0 → s2.mode = 0)) := by have h1 := DM.out.2.1 rfl; have h := HC1.out; exact ⟨h1.1.trans h.1, h1.2.trans h.2, DM.out.2.2⟩
          clear HC1 DM
          have HC : Hid (0 ≤ c ∧ c ≤ n) := by have h1 := Q5.out.ok.l0; have h2 := Q5.out.ok.s0; have h3 := HS.out; unfold Hid; omega
          have g1 : decide (n < c) = false := by have := HC.out; simp; omega
          have v2 : IntKind.i64.wrap (n - c) = n - c := by have := HC.out; have := HNN.out; rw [IntKind.wrap_i64]; omega
          obtain ⟨idb, hid⟩ : ∃ b, (s.mode == 0) = b := ⟨_, rfl⟩
          rw [hid]
          cases idb
          · clear hid
            go_wp2_with fail
            refine (mode_any lo s2 w5 Q5.out).mono ?_
            rintro e w6 ⟨rfl, hw6⟩
            rw [hw6]
            clear hw6
            go_wp2_with fail
            refine (starts_any lo s2 w5 Q5.out).mono ?_
            rintro e w6 ⟨rfl, hw6⟩
            rw [hw6, HS.out.1]
            clear hw6
            go_wp2_with fail
            refine (left_any lo s2 w5 Q5.out).mono ?_
            rintro e w6 ⟨rfl, hw6⟩
            rw [hw6, HS.out.2.1]
            clear hw6
            go_wp2_with fail
            go_roundw
            case rel =>
              have Q : BR lo len n w (.int .i64 (c)) (.bool (s2.mode == 0)) (.int .i64 ((j : Int) + 1)) w5 := ⟨⟨j + 1, c, s2, HX.out, rfl, rfl, by go_num, Q5.out, HS.out.1, HS.out.2.1, B5.out⟩⟩
              
              first | exact Q | ((repeat apply Exists.intro); exact ⟨Q, rfl⟩)
            case measure => have := HX.out; simp [intOf]; omega
          · have hm0 : s2.mode = 0 := HS.out.2.2 (by simpa using hid)
            clear hid
            go_wp2_with fail
            refine (mode_any lo s2 w5 Q5.out).mono ?_
            rintro e w6 ⟨rfl, hw6⟩
            rw [hw6, hm0]
            clear hw6
            go_wp2_with fail
            refine (mode_any lo s2 w5 Q5.out).mono ?_
            rintro e w6 ⟨rfl, hw6⟩
            rw [hw6, hm0]
            clear hw6
            go_wp2_with fail
            refine (starts_any lo s2 w5 Q5.out).mono ?_
            rintro e w6 ⟨rfl, hw6⟩
            rw [hw6, HS.out.1]
            clear hw6
            go_wp2_with fail
            refine (left_any lo s2 w5 Q5.out).mono ?_
            rintro e w6 ⟨rfl, hw6⟩
            rw [hw6, HS.out.2.1]
            clear hw6
            go_wp2_with fail
            go_roundw
            case rel =>
              have Q : BR lo len n w (.int .i64 (c)) (.bool (s2.mode == 0)) (.int .i64 ((j : Int) + 1)) w5 := ⟨⟨j + 1, c, s2, HX.out, rfl, rfl, by go_num, Q5.out, HS.out.1, HS.out.2.1, B5.out⟩⟩
              rw [hm0] at Q
              first | exact Q | ((repeat apply Exists.intro); exact ⟨Q, rfl⟩)
            case measure => have := HX.out; simp [intOf]; omega
        · have HS : Hid (s2.starts = c + 1 ∧ s2.left = n - (c + 1) ∧ (s.mode = 0 → s2.mode = 0)) := by have h1 := DM.out.1 rfl; have h := HC1.out; exact ⟨by omega, by omega, DM.out.2.2⟩
          have v3 : IntKind.i64.wrap (c + 1) = c + 1 := by have h1 := Q5.out.ok.s0; have h2 := Q5.out.ok.ls; have h4 := Q5.out.ok.l0; have := HS.out; rw [IntKind.wrap_i64]; omega
          clear HC1 DM
          have HC : Hid (0 ≤ (c + 1) ∧ (c + 1) ≤ n) := by have h1 := Q5.out.ok.l0; have h2 := Q5.out.ok.s0; have h3 := HS.out; unfold Hid; omega
          have g1 : decide (n < (c + 1)) = false := by have := HC.out; simp; omega
          have v2 : IntKind.i64.wrap (n - (c + 1)) = n - (c + 1) := by have := HC.out; have := HNN.out; rw [IntKind.wrap_i64]; omega
          obtain ⟨idb, hid⟩ : ∃ b, (s.mode == 0) = b := ⟨_, rfl⟩
          rw [hid]
          cases idb
          · clear hid
            go_wp2_with fail
            refine (mode_any lo s2 w5 Q5.out).mono ?_
            rintro e w6 ⟨rfl, hw6⟩
            rw [hw6]
            clear hw6
            go_wp2_with fail
            refine (starts_any lo s2 w5 Q5.out).mono ?_
            rintro e w6 ⟨rfl, hw6⟩
            rw [hw6, HS.out.1]
            clear hw6
            go_wp2_with fail
            refine (left_any lo s2 w5 Q5.out).mono ?_
            rintro e w6 ⟨rfl, hw6⟩
            rw [hw6, HS.out.2.1]
            clear hw6
            go_wp2_with fail
            go_roundw
            case rel =>
              have Q : BR lo len n w (.int .i64 ((c + 1))) (.bool (s2.mode == 0)) (.int .i64 ((j : Int) + 1)) w5 := ⟨⟨j + 1, (c + 1), s2, HX.out, rfl, rfl, by go_num, Q5.out, HS.out.1, HS.out.2.1, B5.out⟩⟩
              
              first | exact Q | ((repeat apply Exists.intro); exact ⟨Q, rfl⟩)
            case measure => have := HX.out; simp [intOf]; omega
          · have hm0 : s2.mode = 0 := HS.out.2.2 (by simpa using hid)
            clear hid
            go_wp2_with fail
            refine (mode_any lo s2 w5 Q5.out).mono ?_
            rintro e w6 ⟨rfl, hw6⟩
            rw [hw6, hm0]
            clear hw6
            go_wp2_with fail
            refine (mode_any lo s2 w5 Q5.out).mono ?_
            rintro e w6 ⟨rfl, hw6⟩
            rw [hw6, hm0]
            clear hw6
            go_wp2_with fail
            refine (starts_any lo s2 w5 Q5.out).mono ?_
            rintro e w6 ⟨rfl, hw6⟩
            rw [hw6, HS.out.1]
            clear hw6
            go_wp2_with fail
            refine (left_any lo s2 w5 Q5.out).mono ?_
            rintro e w6 ⟨rfl, hw6⟩
            rw [hw6, HS.out.2.1]
            clear hw6
            go_wp2_with fail
            go_roundw
            case rel =>
              have Q : BR lo len n w (.int .i64 ((c + 1))) (.bool (s2.mode == 0)) (.int .i64 ((j : Int) + 1)) w5 := ⟨⟨j + 1, (c + 1), s2, HX.out, rfl, rfl, by go_num, Q5.out, HS.out.1, HS.out.2.1, B5.out⟩⟩
              rw [hm0] at Q
              first | exact Q | ((repeat apply Exists.intro); exact ⟨Q, rfl⟩)
            case measure => have := HX.out; simp [intOf]; omega
      · go_wp2_with fail
        refine (do_any lo s 5 wr HQ.out).mono ?_
        rintro e w5 ⟨rfl, q5, f5⟩
        have B5 : Hid (Below lo w w5) := HB.out.trans (f5.below (fun b hb => by rw [hb]; exact Nat.le_refl _) (by have := HQ.out.lt; omega))
        have DM := do_more s 5
        obtain ⟨s2, hs2⟩ : ∃ x, doS s 5 = x := ⟨_, rfl⟩
        obtain ⟨an, han⟩ : ∃ x, doA s 5 = x := ⟨_, rfl⟩
        have Q5 : Hid (LV w5 lo s2) := by rw [← hs2]; exact q5
        rw [hs2, han] at DM
        rw [hs2, han]
        have DM := Lib.hid DM
        clear q5 f5 hs2 han z0 hd HB HQ
        cases an
        · have HS : Hid (s2.starts = c ∧ s2.left = n - c ∧ (s.mode = 0 → s2.mode = 0)) := by have h1 := DM.out.2.1 rfl; have h := HC1.out; exact ⟨h1.1.trans h.1, h1.2.trans h.2, DM.out.2.2⟩
          clear HC1 DM
          have HC : Hid (0 ≤ c ∧ c ≤ n) := by have h1 := Q5.out.ok.l0; have h2 := Q5.out.ok.s0; have h3 := HS.out; unfold Hid; omega
          have g1 : decide (n < c) = false := by have := HC.out; simp; omega
          have v2 : IntKind.i64.wrap (n - c) = n - c := by have := HC.out; have := HNN.out; rw [IntKind.wrap_i64]; omega
          obtain ⟨idb, hid⟩ : ∃ b, (s.mode == 0) = b := ⟨_, rfl⟩
          rw [hid]
          cases idb
          · clear hid
            go_wp2_with fail
            refine (mode_any lo s2 w5 Q5.out).mono ?_
            rintro e w6 ⟨rfl, hw6⟩
            rw [hw6]
            clear hw6
            go_wp2_with fail
            refine (starts_any lo s2 w5 Q5.out).mono ?_
            rintro e w6 ⟨rfl, hw6⟩
            rw [hw6, HS.out.1]
            clear hw6
            go_wp2_with fail
            refine (left_any lo s2 w5 Q5.out).mono ?_
            rintro e w6 ⟨rfl, hw6⟩
            rw [hw6, HS.out.2.1]
            clear hw6
            go_wp2_with fail
            go_roundw
            case rel =>
              have Q : BR lo len n w (.int .i64 (c)) (.bool (s2.mode == 0)) (.int .i64 ((j : Int) + 1)) w5 := ⟨⟨j + 1, c, s2, HX.out, rfl, rfl, by go_num, Q5.out, HS.out.1, HS.out.2.1, B5.out⟩⟩
              
              first | exact Q | ((repeat apply Exists.intro); exact ⟨Q, rfl⟩)
            case measure => have := HX.out; simp [intOf]; omega
          · have hm0 : s2.mode = 0 := HS.out.2.2 (by simpa using hid)
            clear hid
            go_wp2_with fail
            refine (mode_any lo s2 w5 Q5.out).mono ?_
            rintro e w6 ⟨rfl, hw6⟩
            rw [hw6, hm0]
            clear hw6
            go_wp2_with fail
            refine (mode_any lo s2 w5 Q5.out).mono ?_
            rintro e w6 ⟨rfl, hw6⟩
            rw [hw6, hm0]
            clear hw6
            go_wp2_with fail
            refine (starts_any lo s2 w5 Q5.out).mono ?_
            rintro e w6 ⟨rfl, hw6⟩
            rw [hw6, HS.out.1]
            clear hw6
            go_wp2_with fail
            refine (left_any lo s2 w5 Q5.out).mono ?_
            rintro e w6 ⟨rfl, hw6⟩
            rw [hw6, HS.out.2.1]
            clear hw6
            go_wp2_with fail
            go_roundw
            case rel =>
              have Q : BR lo len n w (.int .i64 (c)) (.bool (s2.mode == 0)) (.int .i64 ((j : Int) + 1)) w5 := ⟨⟨j + 1, c, s2, HX.out, rfl, rfl, by go_num, Q5.out, HS.out.1, HS.out.2.1, B5.out⟩⟩
              rw [hm0] at Q
              first | exact Q | ((repeat apply Exists.intro); exact ⟨Q, rfl⟩)
            case measure => have := HX.out; simp [intOf]; omega
        · have HS : Hid (s2.starts = c + 1 ∧ s2.left = n - (c + 1) ∧ (s.mode = 0 → s2.mode = 0)) := by have h1 := DM.out.1 rfl; have h := HC1.out; exact ⟨by omega, by omega, DM.out.2.2⟩
          have v3 : IntKind.i64.wrap (c + 1) = c + 1 := by have h1 := Q5.out.ok.s0; have h2 := Q5.out.ok.ls; have h4 := Q5.out.ok.l0; have := HS.out; rw [IntKind.wrap_i64]; omega
          clear HC1 DM
          have HC : Hid (0 ≤ (c + 1) ∧ (c + 1) ≤ n) := by have h1 := Q5.out.ok.l0; have h2 := Q5.out.ok.s0; have h3 := HS.out; unfold Hid; omega
          have g1 : decide (n < (c + 1)) = false := by have := HC.out; simp; omega
          have v2 : IntKind.i64.wrap (n - (c + 1)) = n - (c + 1) := by have := HC.out; have := HNN.out; rw [IntKind.wrap_i64]; omega
          obtain ⟨idb, hid⟩ : ∃ b, (s.mode == 0) = b := ⟨_, rfl⟩
          rw [hid]
          cases idb
          · clear hid
            go_wp2_with fail
            refine (mode_any lo s2 w5 Q5.out).mono ?_
            rintro e w6 ⟨rfl, hw6⟩
            rw [hw6]
            clear hw6
            go_wp2_with fail
            refine (starts_any lo s2 w5 Q5.out).mono ?_
            rintro e w6 ⟨rfl, hw6⟩
            rw [hw6, HS.out.1]
            clear hw6
            go_wp2_with fail
            refine (left_any lo s2 w5 Q5.out).mono ?_
            rintro e w6 ⟨rfl, hw6⟩
            rw [hw6, HS.out.2.1]
            clear hw6
            go_wp2_with fail
            go_roundw
            case rel =>
              have Q : BR lo len n w (.int .i64 ((c + 1))) (.bool (s2.mode == 0)) (.int .i64 ((j : Int) + 1)) w5 := ⟨⟨j + 1, (c + 1), s2, HX.out, rfl, rfl, by go_num, Q5.out, HS.out.1, HS.out.2.1, B5.out⟩⟩
              
              first | exact Q | ((repeat apply Exists.intro); exact ⟨Q, rfl⟩)
            case measure => have := HX.out; simp [intOf]; omega
          · have hm0 : s2.mode = 0 := HS.out.2.2 (by simpa using hid)
            clear hid
            go_wp2_with fail
            refine (mode_any lo s2 w5 Q5.out).mono ?_
            rintro e w6 ⟨rfl, hw6⟩
            rw [hw6, hm0]
            clear hw6
            go_wp2_with fail
            refine (mode_any lo s2 w5 Q5.out).mono ?_
            rintro e w6 ⟨rfl, hw6⟩
            rw [hw6, hm0]
            clear hw6
            go_wp2_with fail
            refine (starts_any lo s2 w5 Q5.out).mono ?_
            rintro e w6 ⟨rfl, hw6⟩
            rw [hw6, HS.out.1]
            clear hw6
            go_wp2_with fail
            refine (left_any lo s2 w5 Q5.out).mono ?_
            rintro e w6 ⟨rfl, hw6⟩
            rw [hw6, HS.out.2.1]
            clear hw6
            go_wp2_with fail
            go_roundw
            case rel =>
              have Q : BR lo len n w (.int .i64 ((c + 1))) (.bool (s2.mode == 0)) (.int .i64 ((j : Int) + 1)) w5 := ⟨⟨j + 1, (c + 1), s2, HX.out, rfl, rfl, by go_num, Q5.out, HS.out.1, HS.out.2.1, B5.out⟩⟩
              rw [hm0] at Q
              first | exact Q | ((repeat apply Exists.intro); exact ⟨Q, rfl⟩)
            case measure => have := HX.out; simp [intOf]; omega
      · go_wp2_with fail
        refine (do_any lo s 6 wr HQ.out).mono ?_
        rintro e w5 ⟨rfl, q5, f5⟩
        have B5 : Hid (Below lo w w5) := HB.out.trans (f5.below (fun b hb => by rw [hb]; exact Nat.le_refl _) (by have := HQ.out.lt; omega))
        have DM := do_more s 6
        obtain ⟨s2, hs2⟩ : ∃ x, doS s 6 = x := ⟨_, rfl⟩
        obtain ⟨an, han⟩ : ∃ x, doA s 6 = x := ⟨_, rfl⟩
        have Q5 : Hid (LV w5 lo s2) := by rw [← hs2]; exact q5
        rw [hs2, han] at DM
        rw [hs2, han]
        have DM := Lib.hid DM
        clear q5 f5 hs2 han z0 hd HB HQ
        cases an
        · have HS : Hid (s2.starts = c ∧ s2.left = n - c ∧ (s.mode = 0 → s2.mode = 0)) := by have h1 := DM.out.2.1 rfl; have h := HC1.out; exact ⟨h1.1.trans h.1, h1.2.trans h.2, DM.out.2.2⟩
          clear HC1 DM
          have HC : Hid (0 ≤ c ∧ c ≤ n) := by have h1 := Q5.out.ok.l0; have h2 := Q5.out.ok.s0; have h3 := HS.out; unfold Hid; omega
          have g1 : decide (n < c) = false := by have := HC.out; simp; omega
          have v2 : IntKind.i64.wrap (n - c) = n - c := by have := HC.out; have := HNN.out; rw [IntKind.wrap_i64]; omega
          obtain ⟨idb, hid⟩ : ∃ b, (s.mode == 0) = b := ⟨_, rfl⟩
          rw [hid]
          cases idb
          · clear hid
            go_wp2_with fail
            refine (mode_any lo s2 w5 Q5.out).mono ?_
            rintro e w6 ⟨rfl, hw6⟩
            rw [hw6]
            clear hw6
            go_wp2_with fail
            refine (starts_any lo s2 w5 Q5.out).mono ?_
            rintro e w6 ⟨rfl, hw6⟩
            rw [hw6, HS.out.1]
            clear hw6
            go_wp2_with fail
            refine (left_any lo s2 w5 Q5.out).mono ?_
            rintro e w6 ⟨rfl, hw6⟩
            rw [hw6, HS.out.2.1]
            clear hw6
            go_wp2_with fail
            go_roundw
            case rel =>
              have Q : BR lo len n w (.int .i64 (c)) (.bool (s2.mode == 0)) (.int .i64 ((j : Int) + 1)) w5 := ⟨⟨j + 1, c, s2, HX.out, rfl, rfl, by go_num, Q5.out, HS.out.1, HS.out.2.1, B5.out⟩⟩
              
              first | exact Q | ((repeat apply Exists.intro); exact ⟨Q, rfl⟩)
            case measure => have := HX.out; simp [intOf]; omega
          · have hm0 : s2.mode = 0 := HS.out.2.2 (by simpa using hid)
            clear hid
            go_wp2_with fail
            refine (mode_any lo s2 w5 Q5.out).mono ?_
            rintro e w6 ⟨rfl, hw6⟩
            rw [hw6, hm0]
            clear hw6
            go_wp2_with fail
            refine (mode_any lo s2 w5 Q5.out).mono ?_
            rintro e w6 ⟨rfl, hw6⟩
            rw [hw6, hm0]
            clear hw6
            go_wp2_with fail
            refine (starts_any lo s2 w5 Q5.out).mono ?_
            rintro e w6 ⟨rfl, hw6⟩
            rw [hw6, HS.out.1]
            clear hw6
            go_wp2_with fail
            refine (left_any lo s2 w5 Q5.out).mono ?_
            rintro e w6 ⟨rfl, hw6⟩
            rw [hw6, HS.out.2.1]
            clear hw6
            go_wp2_with fail
            go_roundw
            case rel =>
              have Q : BR lo len n w (.int .i64 (c)) (.bool (s2.mode == 0)) (.int .i64 ((j : Int) + 1)) w5 := ⟨⟨j + 1, c, s2, HX.out, rfl, rfl, by go_num, Q5.out, HS.out.1, HS.out.2.1, B5.out⟩⟩
              rw [hm0] at Q
              first | exact Q | ((repeat apply Exists.intro); exact ⟨Q, rfl⟩)
            case measure => have := HX.out; simp [intOf]; omega
        · have HS : Hid (s2.starts = c + 1 ∧ s2.left = n - (c + 1) ∧ (s.mode = 0 → s2.mode = 0)) := by have h1 := DM.out.1 rfl; have h := HC1.out; exact ⟨by omega, by omega, DM.out.2.2⟩
          have v3 : IntKind.i64.wrap (c + 1) = c + 1 := by have h1 := Q5.out.ok.s0; have h2 := Q5.out.ok.ls; have h4 := Q5.out.ok.l0; have := HS.out; rw [IntKind.wrap_i64]; omega
          clear HC1 DM
          have HC : Hid (0 ≤ (c + 1) ∧ (c + 1) ≤ n) := by have h1 := Q5.out.ok.l0; have h2 := Q5.out.ok.s0; have h3 := HS.out; unfold Hid; omega
          have g1 : decide (n < (c + 1)) = false := by have := HC.out; simp; omega
          have v2 : IntKind.i64.wrap (n - (c + 1)) = n - (c + 1) := by have := HC.out; have := HNN.out; rw [IntKind.wrap_i64]; omega
          obtain ⟨idb, hid⟩ : ∃ b, (s.mode == 0) = b := ⟨_, rfl⟩
          rw [hid]
          cases idb
          · clear hid
            go_wp2_with fail
            refine (mode_any lo s2 w5 Q5.out).mono ?_
            rintro e w6 ⟨rfl, hw6⟩
            rw [hw6]
            clear hw6
            go_wp2_with fail
            refine (starts_any lo s2 w5 Q5.out).mono ?_
            rintro e w6 ⟨rfl, hw6⟩
            rw [hw6, HS.out.1]
            clear hw6
            go_wp2_with fail
            refine (left_any lo s2 w5 Q5.out).mono ?_
            rintro e w6 ⟨rfl, hw6⟩
            rw [hw6, HS.out.2.1]
            clear hw6
            go_wp2_with fail
            go_roundw
            case rel =>
              have Q : BR lo len n w (.int .i64 ((c + 1))) (.bool (s2.mode == 0)) (.int .i64 ((j : Int) + 1)) w5 := ⟨⟨j + 1, (c + 1), s2, HX.out, rfl, rfl, by go_num, Q5.out, HS.out.1, HS.out.2.1, B5.out⟩⟩
              
              first | exact Q | ((repeat apply Exists.intro); exact ⟨Q, rfl⟩)
            case measure => have := HX.out; simp [intOf]; omega
          · have hm0 : s2.mode = 0 := HS.out.2.2 (by simpa using hid)
            clear hid
            go_wp2_with fail
            refine (mode_any lo s2 w5 Q5.out).mono ?_
            rintro e w6 ⟨rfl, hw6⟩
            rw [hw6, hm0]
            clear hw6
            go_wp2_with fail
            refine (mode_any lo s2 w5 Q5.out).mono ?_
            rintro e w6 ⟨rfl, hw6⟩
            rw [hw6, hm0]
            clear hw6
            go_wp2_with fail
            refine (starts_any lo s2 w5 Q5.out).mono ?_
            rintro e w6 ⟨rfl, hw6⟩
            rw [hw6, HS.out.1]
            clear hw6
            go_wp2_with fail
            refine (left_any lo s2 w5 Q5.out).mono ?_
            rintro e w6 ⟨rfl, hw6⟩
            rw [hw6, HS.out.2.1]
            clear hw6
            go_wp2_with fail
            go_roundw
            case rel =>
              have Q : BR lo len n w (.int .i64 ((c + 1))) (.bool (s2.mode == 0)) (.int .i64 ((j : Int) + 1)) w5 := ⟨⟨j + 1, (c + 1), s2, HX.out, rfl, rfl, by go_num, Q5.out, HS.out.1, HS.out.2.1, B5.out⟩⟩
              rw [hm0] at Q
              first | exact Q | ((repeat apply Exists.intro); exact ⟨Q, rfl⟩)
            case measure => have := HX.out; simp [intOf]; omega
      · go_wp2_with fail
        refine (run_any lo s wr HQ.out).mono ?_
        rintro e w5 ⟨rfl, q5, f5⟩
        obtain ⟨s2, hs2⟩ : ∃ x, runS s = x := ⟨_, rfl⟩
        have Q5 : Hid (LV w5 lo s2) := by rw [← hs2]; exact q5
        have B5 : Hid (Below lo w w5) := HB.out.trans (f5.below (fun b hb => by rw [hb]; exact Nat.le_refl _) (by have := HQ.out.lt; omega))
        have HS : Hid (s2.starts = c ∧ s2.left = n - c ∧ (s.mode = 0 → s2.mode = 0)) := by rw [← hs2]; have := run_more s; have h := HC1.out; exact ⟨this.1.trans h.1, this.2.1.trans h.2, this.2.2⟩
        clear q5 f5 hs2 HQ HB HC1 z0 hd
        have HC : Hid (0 ≤ c ∧ c ≤ n) := by have h1 := Q5.out.ok.l0; have h2 := Q5.out.ok.s0; have h3 := HS.out; unfold Hid; omega
        have g1 : decide (n < c) = false := by have := HC.out; simp; omega
        have v2 : IntKind.i64.wrap (n - c) = n - c := by have := HC.out; have := HNN.out; rw [IntKind.wrap_i64]; omega
        obtain ⟨idb, hid⟩ : ∃ b, (s.mode == 0) = b := ⟨_, rfl⟩
        rw [hid]
        cases idb
        · clear hid
          go_wp2_with fail
          refine (mode_any lo s2 w5 Q5.out).mono ?_
          rintro e w6 ⟨rfl, hw6⟩
          rw [hw6]
          clear hw6
          go_wp2_with fail
          refine (starts_any lo s2 w5 Q5.out).mono ?_
          rintro e w6 ⟨rfl, hw6⟩
          rw [hw6, HS.out.1]
          clear hw6
          go_wp2_with fail
          refine (left_any lo s2 w5 Q5.out).mono ?_
          rintro e w6 ⟨rfl, hw6⟩
          rw [hw6, HS.out.2.1]
          clear hw6
          go_wp2_with fail
          go_roundw
          case rel =>
            have Q : BR lo len n w (.int .i64 (c)) (.bool (s2.mode == 0)) (.int .i64 ((j : Int) + 1)) w5 := ⟨⟨j + 1, c, s2, HX.out, rfl, rfl, by go_num, Q5.out, HS.out.1, HS.out.2.1, B5.out⟩⟩
            
            first | exact Q | ((repeat apply Exists.intro); exact ⟨Q, rfl⟩)
          case measure => have := HX.out; simp [intOf]; omega
        · have hm0 : s2.mode = 0 := HS.out.2.2 (by simpa using hid)
          clear hid
          go_wp2_with fail
          refine (mode_any lo s2 w5 Q5.out).mono ?_
          rintro e w6 ⟨rfl, hw6⟩
          rw [hw6, hm0]
          clear hw6
          go_wp2_with fail
          refine (mode_any lo s2 w5 Q5.out).mono ?_
          rintro e w6 ⟨rfl, hw6⟩
          rw [hw6, hm0]
          clear hw6
          go_wp2_with fail
          refine (starts_any lo s2 w5 Q5.out).mono ?_
          rintro e w6 ⟨rfl, hw6⟩
          rw [hw6, HS.out.1]
          clear hw6
          go_wp2_with fail
          refine (left_any lo s2 w5 Q5.out).mono ?_
          rintro e w6 ⟨rfl, hw6⟩
          rw [hw6, HS.out.2.1]
          clear hw6
          go_wp2_with fail
          go_roundw
          case rel =>
            have Q : BR lo len n w (.int .i64 (c)) (.bool (s2.mode == 0)) (.int .i64 ((j : Int) + 1)) w5 := ⟨⟨j + 1, c, s2, HX.out, rfl, rfl, by go_num, Q5.out, HS.out.1, HS.out.2.1, B5.out⟩⟩
            rw [hm0] at Q
            first | exact Q | ((repeat apply Exists.intro); exact ⟨Q, rfl⟩)
          case measure => have := HX.out; simp [intOf]; omega
  case rest =>
    obtain ⟨w3, hw3⟩ : ∃ w', w' = wc := ⟨_, rfl⟩
    subst hw3
    have B3 := Lib.hid hcut
    clear hcut
    go_wp2_with fail
    go_ret
    exact ⟨rfl, B3.out⟩
end Go.Proofs.Ytiellkodjhfhhaa.Lf
