/-
  LifeStarts' walk. Each statement bears its own conditions.
-/
import Derived.Test.YtiellkodjhfhhaaLfP
namespace Go.Proofs.Ytiellkodjhfhhaa.Lf
open Go.RowKit Go.Proofs.Ytiellkodjhfhhaa.F 
set_option linter.unusedVariables false
set_option linter.unusedSimpArgs false
def BoolRow (w : World) (a : Option Addr) (len : Nat) : Prop := 0 < len → ∃ (b off : Nat) (B : Nat → Bool), a = some ⟨b, off, none⟩ ∧ ∀ i, i < len → w.cell? ⟨b, off + i, none⟩ = some (.bool (B i))
theorem boolRow_of {w : World} {x : Addr} {l c : Nat} {B : Nat → Bool} (hl : l ≤ c) (hm : c ≤ maxLen) (hcell : ∀ i, i < c → w.cell? (x.add i) = some (.bool (B i))) : BoolRow w (some x) l ∧ l ≤ maxLen := by
  refine ⟨fun h0 => ?_, Nat.le_trans hl hm⟩
  obtain ⟨b, off, spot⟩ := x
  have h1 := hcell 0 (by omega)
  have hs : spot = none := by simpa [Addr.add] using World.cell?_spot h1
  subst hs
  exact ⟨b, off, B, rfl, fun i hi => by have := hcell i (by omega); rwa [Addr.add_lit] at this⟩
structure SR (lo len : Nat) (n : Int) (w0 : World) (iv : Value) (wr : World) : Prop where
  ex : ∃ (j : Nat) (m l st : Int), j ≤ len ∧ iv = .int .i64 (j : Int) ∧ (m = 1 ∨ m = 2) ∧ LV wr lo ⟨m, l, st⟩ ∧ st = (j : Int) ∧ l = n - (j : Int) ∧ Below lo w0 wr
set_option maxRecDepth 100000 in
set_option maxHeartbeats 8000000 in
theorem starts_walk (a0 : Int) (a1 : Option Addr) (len cap : Nat) (w : World) (h1 : BoolRow w a1 len) : Calls Try.prog 7 #[.int .i64 a0, .slice a1 len cap] w fun e w' => e = .returned (.bool true) ∧ Below w.heap.size w w' := by
  have HR := Lib.hid h1
  clear h1
  have he := he_li
  obtain ⟨lo, hlo⟩ : ∃ lo, w.heap.size = lo := ⟨_, rfl⟩
  have HLO := Lib.hid hlo
  obtain ⟨n, hn⟩ : ∃ x, (IntKind.u64.wrap a0).tmod 30 = x := ⟨_, rfl⟩
  have b1 := u64_tmod a0 30 (by decide)
  rw [hn] at b1
  have HNN : Hid (0 ≤ n ∧ n < 30) := b1
  have v1 : IntKind.i64.wrap n = n := IntWalk.i64_in _ ⟨by omega, by omega⟩
  have NW := Lib.hid (new_any n w (by unfold newI; omega))
  rw [hlo] at NW ⊢
  clear hlo b1
  go_enter Try.func7, Try.ntmps7
  go_wp2_with fail
  refine NW.out.mono ?_
  rintro e w1 ⟨rfl, q1, b1⟩
  have Q1 : Hid (LV w1 lo ⟨1, n, 0⟩) := q1
  have B1 : Hid (Below lo w w1) := b1
  clear q1 b1 NW hn v1
  go_wp2_with fail
  refine (told_any w1).mono ?_
  rintro e w2 ⟨rfl, b2⟩
  have Q2 := Lib.hid (Q1.out.below b2)
  have B2 : Hid (Below lo w w2) := B1.out.trans (b2.mono (by have := Q1.out.lt; omega))
  clear b2 Q1 B1
  go_upto_block 0 with fail
  go_cut [8] (fun ix wx => Below lo w wx)
  case first =>
    go_wp2_with fail
    go_loopw [8] (fun iv wr => SR lo len n w iv wr) (fun i _ => len - (intOf i).toNat)
    case atStart => exact ⟨⟨0, 1, n, 0, Nat.zero_le _, rfl, .inl rfl, Q2.out, rfl, by simp, B2.out⟩⟩
    case round =>
      clear Q2 B2
      obtain ⟨⟨j, m, l, st, hj, rfl, hm, hq, hc1, hc2, hb⟩⟩ := hrel
      have HQ := Lib.hid hq
      have HB := Lib.hid hb
      have HC1 : Hid (st = (j : Int) ∧ l = n - (j : Int)) := ⟨hc1, hc2⟩
      clear hq hb hc1 hc2
      by_cases hlt : j < len
      rotate_left
      · have hjI : ¬ (j : Int) < (len : Int) := by omega
        have g0 : decide ((j : Int) < (len : Int)) = false := by simp; omega
        clear hlt hj hm
        go_wp2_with fail
        go_meet
        exact HB.out
      by_cases h150 : (j : Int) < n
      rotate_left
      · have hjI : (j : Int) < (len : Int) := by omega
        have hcI : ¬ (j : Int) < n := by omega
        have g0 : decide ((j : Int) < (len : Int)) = true := by simp; omega
        have g3 : decide ((j : Int) < n) = false := by simp; omega
        clear hlt hj h150 hm
        go_wp2_with fail
        go_meet
        exact HB.out
      have g0 : decide ((j : Int) < (len : Int)) = true := by simp; omega
      have g3 : decide ((j : Int) < n) = true := by simp; omega
      have hjI : (j : Int) < (len : Int) := by omega
      have hcI : (j : Int) < n := h150
      have hj30 : (j : Int) < 30 := by have := HNN.out; omega
      have HX : Hid (j < len) := hlt
      have HL : Hid (l ≠ 0) := by have := HC1.out; unfold Hid; omega
      have v2 : IntKind.i64.wrap (n - (j : Int)) = n - (j : Int) := by have := HNN.out; rw [IntKind.wrap_i64]; omega
      have v3 : IntKind.i64.wrap (n - (j : Int) - 1) = n - (j : Int) - 1 := by have := HNN.out; rw [IntKind.wrap_i64]; omega
      have HN2 : Hid (l - 1 = n - (j : Int) - 1) := by have := HC1.out; unfold Hid; omega
      obtain ⟨b, off, B, hA, hc⟩ := HR.out (show 0 < len by omega)
      subst hA
      obtain ⟨z, hz⟩ : ∃ x, B j = x := ⟨_, rfl⟩
      have hc0 := hc j hlt
      rw [hz] at hc0
      have z0 : wr.cell? ⟨b, off + j, none⟩ = some (.bool z) := (HB.out.cell (by show b < lo; rw [← HLO.out]; exact World.block_lt_of_cell? _ _ hc0)).trans hc0
      obtain ⟨d, hd⟩ : ∃ x, (j : Int).tmod 3 = x := ⟨_, rfl⟩
      have hdc : d = 0 ∨ d = 1 ∨ d = 2 := by rw [← hd, Int.tmod_eq_emod_of_nonneg (by omega)]; omega
      have HBL : Hid (b < lo) := by unfold Hid; rw [← HLO.out]; exact World.block_lt_of_cell? _ _ hc0
      clear hc hc0 hz hlt hj h150
      rcases hm with rfl | rfl
      · rcases hdc with rfl | rfl | rfl
        · cases z
          · go_wp2_with fail
            refine (run_any lo ⟨1, l, st⟩ wr HQ.out).mono ?_
            rw [show runE ⟨1, l, st⟩ = 0 from rfl]
            rintro e w5 ⟨rfl, q5, f5⟩
            have Q5 : Hid (LV w5 lo ⟨3, l, st⟩) := q5
            have B5 : Hid (Below lo w w5) := HB.out.trans (f5.below (fun b hb => by rw [hb]; exact Nat.le_refl _) (by have := HQ.out.lt; omega))
            have z5 : w5.cell? ⟨b, off + j, none⟩ = some (.bool false) := f5.cell (by show ¬ b = lo; have := World.block_lt_of_cell? _ _ z0; have := HLO.out; exact fun e => absurd HBL.out (by rw [e]; exact Nat.lt_irrefl _)) z0
            clear q5 f5 z0
            go_wp2_with fail
            refine (mode_any lo ⟨3, l, st⟩ w5 Q5.out).mono ?_
            rintro e w6 ⟨rfl, hw6⟩
            rw [hw6]
            clear hw6
            go_wp2_with fail
            refine (do_any lo ⟨3, l, st⟩ 5 w5 Q5.out).mono ?_
            have e1 : doS ⟨3, l, st⟩ 5 = ⟨1, l - 1, st + 1⟩ := (do_go (s := ⟨3, l, st⟩) (a := 5) (by omega) (by simp) HL.out).1
            have e2 := (do_go (s := ⟨3, l, st⟩) (a := 5) (by omega) (by simp) HL.out).2
            rw [e1, e2.1, e2.2]
            clear e1 e2
            rintro e w7 ⟨rfl, q7, f7⟩
            have Q7 := Lib.hid q7
            have B7 : Hid (Below lo w w7) := B5.out.trans (f7.below (fun b hb => by rw [hb]; exact Nat.le_refl _) (by have := Q5.out.lt; omega))
            clear q7 f7
            go_wp2_with fail
            refine (mode_any lo ⟨1, l - 1, st + 1⟩ w7 Q7.out).mono ?_
            rintro e w8 ⟨rfl, hw8⟩
            rw [hw8]
            clear hw8
            go_wp2_with fail
            refine (left_any lo ⟨1, l - 1, st + 1⟩ w7 Q7.out).mono ?_
            rintro e w8 ⟨rfl, hw8⟩
            rw [hw8, show (LS.left ⟨1, l - 1, st + 1⟩) = n - (j : Int) - 1 from HN2.out]
            clear hw8
            go_wp2_with fail
            go_roundw
            case rel =>
              have Q : SR lo len n w (.int .i64 ((j : Int) + 1)) w7 := ⟨⟨j + 1, 1, l - 1, st + 1, HX.out, by go_num, .inl rfl, Q7.out, by have := HC1.out; omega, by have := HC1.out; omega, B7.out⟩⟩
              first | exact Q | ((repeat apply Exists.intro); exact ⟨Q, rfl⟩)
            case measure => have := HX.out; simp [intOf]; omega
          · go_wp2_with fail
            refine (run_any lo ⟨1, l, st⟩ wr HQ.out).mono ?_
            rw [show runE ⟨1, l, st⟩ = 0 from rfl]
            rintro e w5 ⟨rfl, q5, f5⟩
            have Q5 : Hid (LV w5 lo ⟨3, l, st⟩) := q5
            have B5 : Hid (Below lo w w5) := HB.out.trans (f5.below (fun b hb => by rw [hb]; exact Nat.le_refl _) (by have := HQ.out.lt; omega))
            have z5 : w5.cell? ⟨b, off + j, none⟩ = some (.bool true) := f5.cell (by show ¬ b = lo; have := World.block_lt_of_cell? _ _ z0; have := HLO.out; exact fun e => absurd HBL.out (by rw [e]; exact Nat.lt_irrefl _)) z0
            clear q5 f5 z0
            go_wp2_with fail
            refine (mode_any lo ⟨3, l, st⟩ w5 Q5.out).mono ?_
            rintro e w6 ⟨rfl, hw6⟩
            rw [hw6]
            clear hw6
            go_wp2_with fail
            refine (do_any lo ⟨3, l, st⟩ 4 w5 Q5.out).mono ?_
            have e1 : doS ⟨3, l, st⟩ 4 = ⟨2, l - 1, st + 1⟩ := (do_go (s := ⟨3, l, st⟩) (a := 4) (by omega) (by simp) HL.out).1
            have e2 := (do_go (s := ⟨3, l, st⟩) (a := 4) (by omega) (by simp) HL.out).2
            rw [e1, e2.1, e2.2]
            clear e1 e2
            rintro e w7 ⟨rfl, q7, f7⟩
            have Q7 := Lib.hid q7
            have B7 : Hid (Below lo w w7) := B5.out.trans (f7.below (fun b hb => by rw [hb]; exact Nat.le_refl _) (by have := Q5.out.lt; omega))
            clear q7 f7
            go_wp2_with fail
            refine (mode_any lo ⟨2, l - 1, st + 1⟩ w7 Q7.out).mono ?_
            rintro e w8 ⟨rfl, hw8⟩
            rw [hw8]
            clear hw8
            go_wp2_with fail
            refine (left_any lo ⟨2, l - 1, st + 1⟩ w7 Q7.out).mono ?_
            rintro e w8 ⟨rfl, hw8⟩
            rw [hw8, show (LS.left ⟨2, l - 1, st + 1⟩) = n - (j : Int) - 1 from HN2.out]
            clear hw8
            go_wp2_with fail
            go_roundw
            case rel =>
              have Q : SR lo len n w (.int .i64 ((j : Int) + 1)) w7 := ⟨⟨j + 1, 2, l - 1, st + 1, HX.out, by go_num, .inr rfl, Q7.out, by have := HC1.out; omega, by have := HC1.out; omega, B7.out⟩⟩
              first | exact Q | ((repeat apply Exists.intro); exact ⟨Q, rfl⟩)
            case measure => have := HX.out; simp [intOf]; omega
        · cases z
          · go_wp2_with fail
            refine (run_any lo ⟨1, l, st⟩ wr HQ.out).mono ?_
            rw [show runE ⟨1, l, st⟩ = 0 from rfl]
            rintro e w5 ⟨rfl, q5, f5⟩
            have Q5 : Hid (LV w5 lo ⟨3, l, st⟩) := q5
            have B5 : Hid (Below lo w w5) := HB.out.trans (f5.below (fun b hb => by rw [hb]; exact Nat.le_refl _) (by have := HQ.out.lt; omega))
            have z5 : w5.cell? ⟨b, off + j, none⟩ = some (.bool false) := f5.cell (by show ¬ b = lo; have := World.block_lt_of_cell? _ _ z0; have := HLO.out; exact fun e => absurd HBL.out (by rw [e]; exact Nat.lt_irrefl _)) z0
            clear q5 f5 z0
            go_wp2_with fail
            refine (mode_any lo ⟨3, l, st⟩ w5 Q5.out).mono ?_
            rintro e w6 ⟨rfl, hw6⟩
            rw [hw6]
            clear hw6
            go_wp2_with fail
            refine (do_any lo ⟨3, l, st⟩ 5 w5 Q5.out).mono ?_
            have e1 : doS ⟨3, l, st⟩ 5 = ⟨1, l - 1, st + 1⟩ := (do_go (s := ⟨3, l, st⟩) (a := 5) (by omega) (by simp) HL.out).1
            have e2 := (do_go (s := ⟨3, l, st⟩) (a := 5) (by omega) (by simp) HL.out).2
            rw [e1, e2.1, e2.2]
            clear e1 e2
            rintro e w7 ⟨rfl, q7, f7⟩
            have Q7 := Lib.hid q7
            have B7 : Hid (Below lo w w7) := B5.out.trans (f7.below (fun b hb => by rw [hb]; exact Nat.le_refl _) (by have := Q5.out.lt; omega))
            clear q7 f7
            go_wp2_with fail
            refine (mode_any lo ⟨1, l - 1, st + 1⟩ w7 Q7.out).mono ?_
            rintro e w8 ⟨rfl, hw8⟩
            rw [hw8]
            clear hw8
            go_wp2_with fail
            refine (left_any lo ⟨1, l - 1, st + 1⟩ w7 Q7.out).mono ?_
            rintro e w8 ⟨rfl, hw8⟩
            rw [hw8, show (LS.left ⟨1, l - 1, st + 1⟩) = n - (j : Int) - 1 from HN2.out]
            clear hw8
            go_wp2_with fail
            go_roundw
            case rel =>
              have Q : SR lo len n w (.int .i64 ((j : Int) + 1)) w7 := ⟨⟨j + 1, 1, l - 1, st + 1, HX.out, by go_num, .inl rfl, Q7.out, by have := HC1.out; omega, by have := HC1.out; omega, B7.out⟩⟩
              first | exact Q | ((repeat apply Exists.intro); exact ⟨Q, rfl⟩)
            case measure => have := HX.out; simp [intOf]; omega
          · go_wp2_with fail
            refine (run_any lo ⟨1, l, st⟩ wr HQ.out).mono ?_
            rw [show runE ⟨1, l, st⟩ = 0 from rfl]
            rintro e w5 ⟨rfl, q5, f5⟩
            have Q5 : Hid (LV w5 lo ⟨3, l, st⟩) := q5
            have B5 : Hid (Below lo w w5) := HB.out.trans (f5.below (fun b hb => by rw [hb]; exact Nat.le_refl _) (by have := HQ.out.lt; omega))
            have z5 : w5.cell? ⟨b, off + j, none⟩ = some (.bool true) := f5.cell (by show ¬ b = lo; have := World.block_lt_of_cell? _ _ z0; have := HLO.out; exact fun e => absurd HBL.out (by rw [e]; exact Nat.lt_irrefl _)) z0
            clear q5 f5 z0
            go_wp2_with fail
            refine (mode_any lo ⟨3, l, st⟩ w5 Q5.out).mono ?_
            rintro e w6 ⟨rfl, hw6⟩
            rw [hw6]
            clear hw6
            go_wp2_with fail
            refine (do_any lo ⟨3, l, st⟩ 4 w5 Q5.out).mono ?_
            have e1 : doS ⟨3, l, st⟩ 4 = ⟨2, l - 1, st + 1⟩ := (do_go (s := ⟨3, l, st⟩) (a := 4) (by omega) (by simp) HL.out).1
            have e2 := (do_go (s := ⟨3, l, st⟩) (a := 4) (by omega) (by simp) HL.out).2
            rw [e1, e2.1, e2.2]
            clear e1 e2
            rintro e w7 ⟨rfl, q7, f7⟩
            have Q7 := Lib.hid q7
            have B7 : Hid (Below lo w w7) := B5.out.trans (f7.below (fun b hb => by rw [hb]; exact Nat.le_refl _) (by have := Q5.out.lt; omega))
            clear q7 f7
            go_wp2_with fail
            refine (mode_any lo ⟨2, l - 1, st + 1⟩ w7 Q7.out).mono ?_
            rintro e w8 ⟨rfl, hw8⟩
            rw [hw8]
            clear hw8
            go_wp2_with fail
            refine (left_any lo ⟨2, l - 1, st + 1⟩ w7 Q7.out).mono ?_
            rintro e w8 ⟨rfl, hw8⟩
            rw [hw8, show (LS.left ⟨2, l - 1, st + 1⟩) = n - (j : Int) - 1 from HN2.out]
            clear hw8
            go_wp2_with fail
            go_roundw
            case rel =>
              have Q : SR lo len n w (.int .i64 ((j : Int) + 1)) w7 := ⟨⟨j + 1, 2, l - 1, st + 1, HX.out, by go_num, .inr rfl, Q7.out, by have := HC1.out; omega, by have := HC1.out; omega, B7.out⟩⟩
              first | exact Q | ((repeat apply Exists.intro); exact ⟨Q, rfl⟩)
            case measure => have := HX.out; simp [intOf]; omega
        · cases z
          · go_wp2_with fail
            refine (mode_any lo ⟨1, l, st⟩ wr HQ.out).mono ?_
            rintro e w6 ⟨rfl, hw6⟩
            rw [hw6]
            clear hw6
            go_wp2_with fail
            refine (do_any lo ⟨1, l, st⟩ 5 wr HQ.out).mono ?_
            have e1 : doS ⟨1, l, st⟩ 5 = ⟨1, l - 1, st + 1⟩ := (do_go (s := ⟨1, l, st⟩) (a := 5) (by omega) (by simp) HL.out).1
            have e2 := (do_go (s := ⟨1, l, st⟩) (a := 5) (by omega) (by simp) HL.out).2
            rw [e1, e2.1, e2.2]
            clear e1 e2
            rintro e w7 ⟨rfl, q7, f7⟩
            have Q7 := Lib.hid q7
            have B7 : Hid (Below lo w w7) := HB.out.trans (f7.below (fun b hb => by rw [hb]; exact Nat.le_refl _) (by have := HQ.out.lt; omega))
            clear q7 f7
            go_wp2_with fail
            refine (mode_any lo ⟨1, l - 1, st + 1⟩ w7 Q7.out).mono ?_
            rintro e w8 ⟨rfl, hw8⟩
            rw [hw8]
            clear hw8
            go_wp2_with fail
            refine (left_any lo ⟨1, l - 1, st + 1⟩ w7 Q7.out).mono ?_
            rintro e w8 ⟨rfl, hw8⟩
            rw [hw8, show (LS.left ⟨1, l - 1, st + 1⟩) = n - (j : Int) - 1 from HN2.out]
            clear hw8
            go_wp2_with fail
            go_roundw
            case rel =>
              have Q : SR lo len n w (.int .i64 ((j : Int) + 1)) w7 := ⟨⟨j + 1, 1, l - 1, st + 1, HX.out, by go_num, .inl rfl, Q7.out, by have := HC1.out; omega, by have := HC1.out; omega, B7.out⟩⟩
              first | exact Q | ((repeat apply Exists.intro); exact ⟨Q, rfl⟩)
            case measure => have := HX.out; simp [intOf]; omega
          · go_wp2_with fail
            refine (mode_any lo ⟨1, l, st⟩ wr HQ.out).mono ?_
            rintro e w6 ⟨rfl, hw6⟩
            rw [hw6]
            clear hw6
            go_wp2_with fail
            refine (do_any lo ⟨1, l, st⟩ 4 wr HQ.out).mono ?_
            have e1 : doS ⟨1, l, st⟩ 4 = ⟨1, l - 1, st + 1⟩ := (do_go (s := ⟨1, l, st⟩) (a := 4) (by omega) (by simp) HL.out).1
            have e2 := (do_go (s := ⟨1, l, st⟩) (a := 4) (by omega) (by simp) HL.out).2
            rw [e1, e2.1, e2.2]
            clear e1 e2
            rintro e w7 ⟨rfl, q7, f7⟩
            have Q7 := Lib.hid q7
            have B7 : Hid (Below lo w w7) := HB.out.trans (f7.below (fun b hb => by rw [hb]; exact Nat.le_refl _) (by have := HQ.out.lt; omega))
            clear q7 f7
            go_wp2_with fail
            refine (mode_any lo ⟨1, l - 1, st + 1⟩ w7 Q7.out).mono ?_
            rintro e w8 ⟨rfl, hw8⟩
            rw [hw8]
            clear hw8
            go_wp2_with fail
            refine (left_any lo ⟨1, l - 1, st + 1⟩ w7 Q7.out).mono ?_
            rintro e w8 ⟨rfl, hw8⟩
            rw [hw8, show (LS.left ⟨1, l - 1, st + 1⟩) = n - (j : Int) - 1 from HN2.out]
            clear hw8
            go_wp2_with fail
            go_roundw
            case rel =>
              have Q : SR lo len n w (.int .i64 ((j : Int) + 1)) w7 := ⟨⟨j + 1, 1, l - 1, st + 1, HX.out, by go_num, .inl rfl, Q7.out, by have := HC1.out; omega, by have := HC1.out; omega, B7.out⟩⟩
              first | exact Q | ((repeat apply Exists.intro); exact ⟨Q, rfl⟩)
            case measure => have := HX.out; simp [intOf]; omega
      · rcases hdc with rfl | rfl | rfl
        · cases z
          · go_wp2_with fail
            refine (run_any lo ⟨2, l, st⟩ wr HQ.out).mono ?_
            rw [show runE ⟨2, l, st⟩ = 0 from rfl]
            rintro e w5 ⟨rfl, q5, f5⟩
            have Q5 : Hid (LV w5 lo ⟨3, l, st⟩) := q5
            have B5 : Hid (Below lo w w5) := HB.out.trans (f5.below (fun b hb => by rw [hb]; exact Nat.le_refl _) (by have := HQ.out.lt; omega))
            have z5 : w5.cell? ⟨b, off + j, none⟩ = some (.bool false) := f5.cell (by show ¬ b = lo; have := World.block_lt_of_cell? _ _ z0; have := HLO.out; exact fun e => absurd HBL.out (by rw [e]; exact Nat.lt_irrefl _)) z0
            clear q5 f5 z0
            go_wp2_with fail
            refine (mode_any lo ⟨3, l, st⟩ w5 Q5.out).mono ?_
            rintro e w6 ⟨rfl, hw6⟩
            rw [hw6]
            clear hw6
            go_wp2_with fail
            refine (do_any lo ⟨3, l, st⟩ 5 w5 Q5.out).mono ?_
            have e1 : doS ⟨3, l, st⟩ 5 = ⟨1, l - 1, st + 1⟩ := (do_go (s := ⟨3, l, st⟩) (a := 5) (by omega) (by simp) HL.out).1
            have e2 := (do_go (s := ⟨3, l, st⟩) (a := 5) (by omega) (by simp) HL.out).2
            rw [e1, e2.1, e2.2]
            clear e1 e2
            rintro e w7 ⟨rfl, q7, f7⟩
            have Q7 := Lib.hid q7
            have B7 : Hid (Below lo w w7) := B5.out.trans (f7.below (fun b hb => by rw [hb]; exact Nat.le_refl _) (by have := Q5.out.lt; omega))
            clear q7 f7
            go_wp2_with fail
            refine (mode_any lo ⟨1, l - 1, st + 1⟩ w7 Q7.out).mono ?_
            rintro e w8 ⟨rfl, hw8⟩
            rw [hw8]
            clear hw8
            go_wp2_with fail
            refine (left_any lo ⟨1, l - 1, st + 1⟩ w7 Q7.out).mono ?_
            rintro e w8 ⟨rfl, hw8⟩
            rw [hw8, show (LS.left ⟨1, l - 1, st + 1⟩) = n - (j : Int) - 1 from HN2.out]
            clear hw8
            go_wp2_with fail
            go_roundw
            case rel =>
              have Q : SR lo len n w (.int .i64 ((j : Int) + 1)) w7 := ⟨⟨j + 1, 1, l - 1, st + 1, HX.out, by go_num, .inl rfl, Q7.out, by have := HC1.out; omega, by have := HC1.out; omega, B7.out⟩⟩
              first | exact Q | ((repeat apply Exists.intro); exact ⟨Q, rfl⟩)
            case measure => have := HX.out; simp [intOf]; omega
          · go_wp2_with fail
            refine (run_any lo ⟨2, l, st⟩ wr HQ.out).mono ?_
            rw [show runE ⟨2, l, st⟩ = 0 from rfl]
            rintro e w5 ⟨rfl, q5, f5⟩
            have Q5 : Hid (LV w5 lo ⟨3, l, st⟩) := q5
            have B5 : Hid (Below lo w w5) := HB.out.trans (f5.below (fun b hb => by rw [hb]; exact Nat.le_refl _) (by have := HQ.out.lt; omega))
            have z5 : w5.cell? ⟨b, off + j, none⟩ = some (.bool true) := f5.cell (by show ¬ b = lo; have := World.block_lt_of_cell? _ _ z0; have := HLO.out; exact fun e => absurd HBL.out (by rw [e]; exact Nat.lt_irrefl _)) z0
            clear q5 f5 z0
            go_wp2_with fail
            refine (mode_any lo ⟨3, l, st⟩ w5 Q5.out).mono ?_
            rintro e w6 ⟨rfl, hw6⟩
            rw [hw6]
            clear hw6
            go_wp2_with fail
            refine (do_any lo ⟨3, l, st⟩ 4 w5 Q5.out).mono ?_
            have e1 : doS ⟨3, l, st⟩ 4 = ⟨2, l - 1, st + 1⟩ := (do_go (s := ⟨3, l, st⟩) (a := 4) (by omega) (by simp) HL.out).1
            have e2 := (do_go (s := ⟨3, l, st⟩) (a := 4) (by omega) (by simp) HL.out).2
            rw [e1, e2.1, e2.2]
            clear e1 e2
            rintro e w7 ⟨rfl, q7, f7⟩
            have Q7 := Lib.hid q7
            have B7 : Hid (Below lo w w7) := B5.out.trans (f7.below (fun b hb => by rw [hb]; exact Nat.le_refl _) (by have := Q5.out.lt; omega))
            clear q7 f7
            go_wp2_with fail
            refine (mode_any lo ⟨2, l - 1, st + 1⟩ w7 Q7.out).mono ?_
            rintro e w8 ⟨rfl, hw8⟩
            rw [hw8]
            clear hw8
            go_wp2_with fail
            refine (left_any lo ⟨2, l - 1, st + 1⟩ w7 Q7.out).mono ?_
            rintro e w8 ⟨rfl, hw8⟩
            rw [hw8, show (LS.left ⟨2, l - 1, st + 1⟩) = n - (j : Int) - 1 from HN2.out]
            clear hw8
            go_wp2_with fail
            go_roundw
            case rel =>
              have Q : SR lo len n w (.int .i64 ((j : Int) + 1)) w7 := ⟨⟨j + 1, 2, l - 1, st + 1, HX.out, by go_num, .inr rfl, Q7.out, by have := HC1.out; omega, by have := HC1.out; omega, B7.out⟩⟩
              first | exact Q | ((repeat apply Exists.intro); exact ⟨Q, rfl⟩)
            case measure => have := HX.out; simp [intOf]; omega
        · cases z
          · go_wp2_with fail
            refine (run_any lo ⟨2, l, st⟩ wr HQ.out).mono ?_
            rw [show runE ⟨2, l, st⟩ = 0 from rfl]
            rintro e w5 ⟨rfl, q5, f5⟩
            have Q5 : Hid (LV w5 lo ⟨3, l, st⟩) := q5
            have B5 : Hid (Below lo w w5) := HB.out.trans (f5.below (fun b hb => by rw [hb]; exact Nat.le_refl _) (by have := HQ.out.lt; omega))
            have z5 : w5.cell? ⟨b, off + j, none⟩ = some (.bool false) := f5.cell (by show ¬ b = lo; have := World.block_lt_of_cell? _ _ z0; have := HLO.out; exact fun e => absurd HBL.out (by rw [e]; exact Nat.lt_irrefl _)) z0
            clear q5 f5 z0
            go_wp2_with fail
            refine (mode_any lo ⟨3, l, st⟩ w5 Q5.out).mono ?_
            rintro e w6 ⟨rfl, hw6⟩
            rw [hw6]
            clear hw6
            go_wp2_with fail
            refine (do_any lo ⟨3, l, st⟩ 5 w5 Q5.out).mono ?_
            have e1 : doS ⟨3, l, st⟩ 5 = ⟨1, l - 1, st + 1⟩ := (do_go (s := ⟨3, l, st⟩) (a := 5) (by omega) (by simp) HL.out).1
            have e2 := (do_go (s := ⟨3, l, st⟩) (a := 5) (by omega) (by simp) HL.out).2
            rw [e1, e2.1, e2.2]
            clear e1 e2
            rintro e w7 ⟨rfl, q7, f7⟩
            have Q7 := Lib.hid q7
            have B7 : Hid (Below lo w w7) := B5.out.trans (f7.below (fun b hb => by rw [hb]; exact Nat.le_refl _) (by have := Q5.out.lt; omega))
            clear q7 f7
            go_wp2_with fail
            refine (mode_any lo ⟨1, l - 1, st + 1⟩ w7 Q7.out).mono ?_
            rintro e w8 ⟨rfl, hw8⟩
            rw [hw8]
            clear hw8
            go_wp2_with fail
            refine (left_any lo ⟨1, l - 1, st + 1⟩ w7 Q7.out).mono ?_
            rintro e w8 ⟨rfl, hw8⟩
            rw [hw8, show (LS.left ⟨1, l - 1, st + 1⟩) = n - (j : Int) - 1 from HN2.out]
            clear hw8
            go_wp2_with fail
            go_roundw
            case rel =>
              have Q : SR lo len n w (.int .i64 ((j : Int) + 1)) w7 := ⟨⟨j + 1, 1, l - 1, st + 1, HX.out, by go_num, .inl rfl, Q7.out, by have := HC1.out; omega, by have := HC1.out; omega, B7.out⟩⟩
              first | exact Q | ((repeat apply Exists.intro); exact ⟨Q, rfl⟩)
            case measure => have := HX.out; simp [intOf]; omega
          · go_wp2_with fail
            refine (run_any lo ⟨2, l, st⟩ wr HQ.out).mono ?_
            rw [show runE ⟨2, l, st⟩ = 0 from rfl]
            rintro e w5 ⟨rfl, q5, f5⟩
            have Q5 : Hid (LV w5 lo ⟨3, l, st⟩) := q5
            have B5 : Hid (Below lo w w5) := HB.out.trans (f5.below (fun b hb => by rw [hb]; exact Nat.le_refl _) (by have := HQ.out.lt; omega))
            have z5 : w5.cell? ⟨b, off + j, none⟩ = some (.bool true) := f5.cell (by show ¬ b = lo; have := World.block_lt_of_cell? _ _ z0; have := HLO.out; exact fun e => absurd HBL.out (by rw [e]; exact Nat.lt_irrefl _)) z0
            clear q5 f5 z0
            go_wp2_with fail
            refine (mode_any lo ⟨3, l, st⟩ w5 Q5.out).mono ?_
            rintro e w6 ⟨rfl, hw6⟩
            rw [hw6]
            clear hw6
            go_wp2_with fail
            refine (do_any lo ⟨3, l, st⟩ 4 w5 Q5.out).mono ?_
            have e1 : doS ⟨3, l, st⟩ 4 = ⟨2, l - 1, st + 1⟩ := (do_go (s := ⟨3, l, st⟩) (a := 4) (by omega) (by simp) HL.out).1
            have e2 := (do_go (s := ⟨3, l, st⟩) (a := 4) (by omega) (by simp) HL.out).2
            rw [e1, e2.1, e2.2]
            clear e1 e2
            rintro e w7 ⟨rfl, q7, f7⟩
            have Q7 := Lib.hid q7
            have B7 : Hid (Below lo w w7) := B5.out.trans (f7.below (fun b hb => by rw [hb]; exact Nat.le_refl _) (by have := Q5.out.lt; omega))
            clear q7 f7
            go_wp2_with fail
            refine (mode_any lo ⟨2, l - 1, st + 1⟩ w7 Q7.out).mono ?_
            rintro e w8 ⟨rfl, hw8⟩
            rw [hw8]
            clear hw8
            go_wp2_with fail
            refine (left_any lo ⟨2, l - 1, st + 1⟩ w7 Q7.out).mono ?_
            rintro e w8 ⟨rfl, hw8⟩
            rw [hw8, show (LS.left ⟨2, l - 1, st + 1⟩) = n - (j : Int) - 1 from HN2.out]
            clear hw8
            go_wp2_with fail
            go_roundw
            case rel =>
              have Q : SR lo len n w (.int .i64 ((j : Int) + 1)) w7 := ⟨⟨j + 1, 2, l - 1, st + 1, HX.out, by go_num, .inr rfl, Q7.out, by have := HC1.out; omega, by have := HC1.out; omega, B7.out⟩⟩
              first | exact Q | ((repeat apply Exists.intro); exact ⟨Q, rfl⟩)
            case measure => have := HX.out; simp [intOf]; omega
        · cases z
          · go_wp2_with fail
            refine (mode_any lo ⟨2, l, st⟩ wr HQ.out).mono ?_
            rintro e w6 ⟨rfl, hw6⟩
            rw [hw6]
            clear hw6
            go_wp2_with fail
            refine (do_any lo ⟨2, l, st⟩ 5 wr HQ.out).mono ?_
            have e1 : doS ⟨2, l, st⟩ 5 = ⟨1, l - 1, st + 1⟩ := (do_go (s := ⟨2, l, st⟩) (a := 5) (by omega) (by simp) HL.out).1
            have e2 := (do_go (s := ⟨2, l, st⟩) (a := 5) (by omega) (by simp) HL.out).2
            rw [e1, e2.1, e2.2]
            clear e1 e2
            rintro e w7 ⟨rfl, q7, f7⟩
            have Q7 := Lib.hid q7
            have B7 : Hid (Below lo w w7) := HB.out.trans (f7.below (fun b hb => by rw [hb]; exact Nat.le_refl _) (by have := HQ.out.lt; omega))
            clear q7 f7
            go_wp2_with fail
            refine (mode_any lo ⟨1, l - 1, st + 1⟩ w7 Q7.out).mono ?_
            rintro e w8 ⟨rfl, hw8⟩
            rw [hw8]
            clear hw8
            go_wp2_with fail
            refine (left_any lo ⟨1, l - 1, st + 1⟩ w7 Q7.out).mono ?_
            rintro e w8 ⟨rfl, hw8⟩
            rw [hw8, show (LS.left ⟨1, l - 1, st + 1⟩) = n - (j : Int) - 1 from HN2.out]
            clear hw8
            go_wp2_with fail
            go_roundw
            case rel =>
              have Q : SR lo len n w (.int .i64 ((j : Int) + 1)) w7 := ⟨⟨j + 1, 1, l - 1, st + 1, HX.out, by go_num, .inl rfl, Q7.out, by have := HC1.out; omega, by have := HC1.out; omega, B7.out⟩⟩
              first | exact Q | ((repeat apply Exists.intro); exact ⟨Q, rfl⟩)
            case measure => have := HX.out; simp [intOf]; omega
          · go_wp2_with fail
            refine (mode_any lo ⟨2, l, st⟩ wr HQ.out).mono ?_
            rintro e w6 ⟨rfl, hw6⟩
            rw [hw6]
            clear hw6
            go_wp2_with fail
            refine (do_any lo ⟨2, l, st⟩ 4 wr HQ.out).mono ?_
            have e1 : doS ⟨2, l, st⟩ 4 = ⟨2, l - 1, st + 1⟩ := (do_go (s := ⟨2, l, st⟩) (a := 4) (by omega) (by simp) HL.out).1
            have e2 := (do_go (s := ⟨2, l, st⟩) (a := 4) (by omega) (by simp) HL.out).2
            rw [e1, e2.1, e2.2]
            clear e1 e2
            rintro e w7 ⟨rfl, q7, f7⟩
            have Q7 := Lib.hid q7
            have B7 : Hid (Below lo w w7) := HB.out.trans (f7.below (fun b hb => by rw [hb]; exact Nat.le_refl _) (by have := HQ.out.lt; omega))
            clear q7 f7
            go_wp2_with fail
            refine (mode_any lo ⟨2, l - 1, st + 1⟩ w7 Q7.out).mono ?_
            rintro e w8 ⟨rfl, hw8⟩
            rw [hw8]
            clear hw8
            go_wp2_with fail
            refine (left_any lo ⟨2, l - 1, st + 1⟩ w7 Q7.out).mono ?_
            rintro e w8 ⟨rfl, hw8⟩
            rw [hw8, show (LS.left ⟨2, l - 1, st + 1⟩) = n - (j : Int) - 1 from HN2.out]
            clear hw8
            go_wp2_with fail
            go_roundw
            case rel =>
              have Q : SR lo len n w (.int .i64 ((j : Int) + 1)) w7 := ⟨⟨j + 1, 2, l - 1, st + 1, HX.out, by go_num, .inr rfl, Q7.out, by have := HC1.out; omega, by have := HC1.out; omega, B7.out⟩⟩
              first | exact Q | ((repeat apply Exists.intro); exact ⟨Q, rfl⟩)
            case measure => have := HX.out; simp [intOf]; omega
  case rest =>
    obtain ⟨w3, hw3⟩ : ∃ w', w' = wc := ⟨_, rfl⟩
    subst hw3
    have B3 := Lib.hid hcut
    clear hcut
    go_wp2_with fail
    go_ret
    exact ⟨rfl, B3.out⟩
end Go.Proofs.Ytiellkodjhfhhaa.Lf
