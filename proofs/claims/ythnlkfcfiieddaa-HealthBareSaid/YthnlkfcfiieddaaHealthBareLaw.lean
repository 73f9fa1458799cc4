/-
  HealthBare's walk. Each statement bears its own conditions.
-/
import Derived.Test.YthnlkfcfiieddaaHlF
namespace Go.Proofs.Ythnlkfcfiieddaa.Hl
open Go.RowKit Go.Proofs.Ythnlkfcfiieddaa.F 
set_option linter.unusedVariables false
set_option linter.unusedSimpArgs false
structure BC (lo : Nat) (n : Int) (w0 : World) (rv : Value) (wx : World) : Prop where
  ex : ∃ (A : Option Addr) (m c : Nat) (rs : List (Int × Int × Int)) (R : List ((Int × Int) × Int)), rv = .slice A m c ∧ m ≤ 64 ∧ RR wx A m rs ∧ newL false rs [] = (0, R) ∧ (∀ l, getL R n l = none) ∧ Below lo w0 wx
theorem pos_one (a : Int) (h : a = 0 ∨ a = 1 ∨ a = 4 ∨ a = 5 ∨ a = 6) : posB 1 a = true := by
  rcases h with rfl | rfl | rfl | rfl | rfl <;> decide
theorem pos_zero (b : Int) (h : 0 ≤ b ∧ b < 4) : posB 0 b = true := by
  have : b = 0 ∨ b = 1 ∨ b = 2 ∨ b = 3 := by omega
  rcases this with rfl | rfl | rfl | rfl <;> decide
theorem two_rules (k a b : Int) (hk : 1 ≤ k ∧ k ≤ 27) (ha : a = 0 ∨ a = 1 ∨ a = 4 ∨ a = 5 ∨ a = 6) (hb : 0 ≤ b ∧ b < 4) : newL false [(k, 1, a), (k, 0, b)] [] = (0, [((k, 1), a), ((k, 0), b)]) := by
  have e1 : addE false [] k 1 a = 0 := by
    unfold addE
    rw [if_neg (fun h => h ⟨hk, rfl⟩), if_neg (by rw [pos_one a ha]; simp), if_neg (by simp [getL, look])]
  have r1 : addR false [] k 1 a = [((k, 1), a)] := by unfold addR; rw [if_pos e1]; rfl
  have g1 : getL [((k, 1), a)] k 0 = none := by simp [getL, look]
  have e2 : addE false [((k, 1), a)] k 0 b = 0 := by
    unfold addE
    rw [if_neg (fun h => h ⟨hk, rfl⟩), if_neg (by rw [pos_zero b hb]; simp), if_neg (by rw [g1]; simp)]
  have r2 : addR false [((k, 1), a)] k 0 b = [((k, 1), a), ((k, 0), b)] := by unfold addR; rw [if_pos e2]; simp [putL]
  show (if addE false [] k 1 a = 0 then newL false [(k, 0, b)] (addR false [] k 1 a) else _) = _
  rw [if_pos e1, r1]
  show (if addE false [((k, 1), a)] k 0 b = 0 then newL false [] (addR false [((k, 1), a)] k 0 b) else _) = _
  rw [if_pos e2, r2]
  rfl
theorem bare_dec (p n : Int) (R : List ((Int × Int) × Int)) (hn : 1 ≤ n ∧ n ≤ 27) (hR : ∀ l, getL R n l = none) : decV false R p n = if p < 0 then (1, 6) else (0, 2) := by
  unfold decV
  rw [if_neg (fun h => h hn), if_neg (by simp)]
  have hf : ∀ (o : Int × Int) (lv : List Int), findV R n o lv = o := by
    intro o lv
    induction lv with
    | nil => rfl
    | cons l r ih => unfold findV; rw [hR l]; exact ih
  rw [hf, hf]
  by_cases hp : p < 0
  · rw [if_pos hp, if_pos (by unfold whoI; simp [hp])]
  · rw [if_neg hp, if_neg (by unfold whoI; simp; omega)]
theorem bare_mod (p n : Int) (hn : 1 ≤ n ∧ n ≤ 27) : decV true [] p n = (2, 1) := by
  unfold decV
  rw [if_neg (fun h => h hn), if_pos rfl]
  rfl
set_option maxRecDepth 100000 in
set_option maxHeartbeats 32000000 in
theorem bare_walk (p a1 a2 a3 : Int) (w : World) (h1 : (Lit.int .u8 a1).wf = true) (h2 : (Lit.int .u8 a2).wf = true) (h3 : (Lit.int .u8 a3).wf = true) : Calls Try.prog 7 #[.int .i64 p, .int .u8 a1, .int .u8 a2, .int .u8 a3] w fun r w' => r = .returned (.bool true) ∧ Below w.heap.size w w' := by
  have he := he_hl
  have hq := act_eql
  have r1 : 0 ≤ a1 ∧ a1 ≤ 255 := by simp only [Lit.wf, Bool.and_eq_true, decide_eq_true_eq] at h1; exact h1
  have r2 : 0 ≤ a2 ∧ a2 ≤ 255 := by simp only [Lit.wf, Bool.and_eq_true, decide_eq_true_eq] at h2; exact h2
  have r3 : 0 ≤ a3 ∧ a3 ≤ 255 := by simp only [Lit.wf, Bool.and_eq_true, decide_eq_true_eq] at h3; exact h3
  have u1 : IntKind.i64.wrap a1 = a1 := by rw [IntKind.wrap_i64]; omega
  have u2 : IntKind.i64.wrap a2 = a2 := by rw [IntKind.wrap_i64]; omega
  obtain ⟨m1, hm1⟩ : ∃ x, a1.tmod 27 = x := ⟨_, rfl⟩
  obtain ⟨m2, hm2⟩ : ∃ x, a2.tmod 27 = x := ⟨_, rfl⟩
  have q1 : 0 ≤ m1 ∧ m1 < 27 := by rw [← hm1]; exact ⟨Int.tmod_nonneg _ r1.1, Int.tmod_lt_of_pos _ (by omega)⟩
  have q2 : 0 ≤ m2 ∧ m2 < 27 := by rw [← hm2]; exact ⟨Int.tmod_nonneg _ r2.1, Int.tmod_lt_of_pos _ (by omega)⟩
  have u3 : IntKind.i64.wrap m1 = m1 := by rw [IntKind.wrap_i64]; omega
  have u4 : IntKind.i64.wrap m2 = m2 := by rw [IntKind.wrap_i64]; omega
  have u5 : IntKind.i64.wrap (1 + m1) = 1 + m1 := by rw [IntKind.wrap_i64]; omega
  have u6 : IntKind.i64.wrap (1 + m2) = 1 + m2 := by rw [IntKind.wrap_i64]; omega
  obtain ⟨n, hn⟩ : ∃ n, 1 + m1 = n := ⟨_, rfl⟩
  obtain ⟨k, hk⟩ : ∃ k, 1 + m2 = k := ⟨_, rfl⟩
  have u5b : IntKind.i64.wrap n = n := by rw [← hn]; exact u5
  have u6b : IntKind.i64.wrap k = k := by rw [← hk]; exact u6
  have HN : Hid (1 ≤ n ∧ n ≤ 27) := by unfold Hid; omega
  have HK : Hid (1 ≤ k ∧ k ≤ 27) := by unfold Hid; omega
  have HR3 : Hid (0 ≤ a3 ∧ a3 ≤ 255) := r3
  obtain ⟨lo, hlo⟩ : ∃ lo, w.heap.size = lo := ⟨_, rfl⟩
  have SP := Lib.hid (speaks_any w)
  rw [hlo] at SP ⊢
  have HLO := Lib.hid hlo
  obtain ⟨bnk, hbnk⟩ : ∃ b, (n != k) = b := ⟨_, rfl⟩
  clear h1 h2 h3 r1 r2 r3 q1 q2 hlo
  go_enter Try.func7, Try.ntmps7
  go_wp2_with fail
  refine SP.out.mono ?_
  rintro r w1 ⟨rfl, b1⟩
  have B1 := Lib.hid b1
  have S1 : Hid (lo ≤ w1.heap.size) := by have := b1.size; have := HLO.out; unfold Hid; omega
  clear b1 SP
  go_upto_if 29 with fail
  clear hm1 hm2 u1 u2 u3 u4 u5 u6 hn hk u5b u6b
  go_cut [11] (fun rv wx => BC lo n w rv wx)
  case first =>
    cases bnk
    · go_wp2_with fail
      go_meet
      exact ⟨⟨none, 0, 0, [], [], rfl, by omega, ⟨rfl, fun i x hx => by simp at hx⟩, rfl, fun l => rfl, B1.out⟩⟩
    · have hne : n ≠ k := by simpa using hbnk
      have HNE := Lib.hid hne
      obtain ⟨m5, hm5⟩ : ∃ x, a3.tmod 5 = x := ⟨_, rfl⟩
      obtain ⟨m4, hm4⟩ : ∃ x, a3.tmod 4 = x := ⟨_, rfl⟩
      have q5 : 0 ≤ m5 ∧ m5 < 5 := by rw [← hm5]; exact ⟨Int.tmod_nonneg _ HR3.out.1, Int.tmod_lt_of_pos _ (by omega)⟩
      have q4 : 0 ≤ m4 ∧ m4 < 4 := by rw [← hm4]; exact ⟨Int.tmod_nonneg _ HR3.out.1, Int.tmod_lt_of_pos _ (by omega)⟩
      have H4 := Lib.hid q4
      have v4 : IntKind.i64.wrap m4 = m4 := by rw [IntKind.wrap_i64]; omega
      have v4u : IntKind.u8.wrap m4 = m4 := by rw [IntKind.wrap_u8]; omega
      have v5u : IntKind.u8.wrap m5 = m5 := by rw [IntKind.wrap_u8]; omega
      have hc5 : m5 = 0 ∨ m5 = 1 ∨ m5 = 2 ∨ m5 = 3 ∨ m5 = 4 := by omega
      clear hne q5 q4
      have G : Hid (∀ (W : World) (Y : Nat) (a : Int), (a = 0 ∨ a = 1 ∨ a = 4 ∨ a = 5 ∨ a = 6) → Below lo w W → lo ≤ W.heap.size → W.heap.size = Y → BC lo n w (.slice (some ⟨Y, 0, none⟩) 2 2) (W.alloc (.cells #[.int .i64 k, .int .i64 1, .int .i64 a, .int .i64 k, .int .i64 0, .int .i64 m4] 59))) := by
        intro W Y a ha hb hs hY
        have hb0 : (W.alloc (.cells #[.int .i64 k, .int .i64 1, .int .i64 a, .int .i64 k, .int .i64 0, .int .i64 m4] 59)).heap[Y]? = some (.cells #[.int .i64 k, .int .i64 1, .int .i64 a, .int .i64 k, .int .i64 0, .int .i64 m4] 59 (0, 0)) := by rw [← hY]; exact heap_alloc_new _ _
        have hyl : Y < (W.alloc (.cells #[.int .i64 k, .int .i64 1, .int .i64 a, .int .i64 k, .int .i64 0, .int .i64 m4] 59)).heap.size := (Array.getElem?_eq_some_iff.1 hb0).1
        refine ⟨⟨_, 2, 2, [(k, 1, a), (k, 0, m4)], _, rfl, by omega, ⟨rfl, fun i x hx => ⟨Y, 0, rfl, hyl, ?_⟩⟩, two_rules k a m4 HK.out ha H4.out, fun l => ?_, hb.alloc hs _⟩⟩
        · rcases i with _ | _ | i
          · simp at hx
            subst hx
            exact ⟨by rw [(row_cell hb0 _).1]; rfl, by rw [(row_cell hb0 _).1]; rfl, by rw [(row_cell hb0 _).1]; rfl⟩
          · simp at hx
            subst hx
            exact ⟨by rw [(row_cell hb0 _).1]; rfl, by rw [(row_cell hb0 _).1]; rfl, by rw [(row_cell hb0 _).1]; rfl⟩
          · simp at hx
        · have := HNE.out
          simp [getL, look, this]
      obtain ⟨Y0, hY0⟩ : ∃ Y, w1.heap.size = Y := ⟨_, rfl⟩
      have B2 : Hid (Below lo w (w1.alloc (.cells #[.int .i64 0, .int .i64 1, .int .i64 4, .int .i64 5, .int .i64 6] 3))) := B1.out.alloc S1.out _
      have hT : (w1.alloc (.cells #[.int .i64 0, .int .i64 1, .int .i64 4, .int .i64 5, .int .i64 6] 3)).heap[Y0]? = some (.cells #[.int .i64 0, .int .i64 1, .int .i64 4, .int .i64 5, .int .i64 6] 3 (0, 0)) := by rw [← hY0]; exact heap_alloc_new _ _
      have hs2 : (w1.alloc (.cells #[.int .i64 0, .int .i64 1, .int .i64 4, .int .i64 5, .int .i64 6] 3)).heap.size = Y0 + 1 := by rw [← hY0]; simp
      have hlo2 : lo ≤ Y0 := by have := S1.out; omega
      have HL2 : Hid (lo ≤ Y0) := hlo2
      obtain ⟨W2, hW2⟩ : ∃ W, w1.alloc (.cells #[.int .i64 0, .int .i64 1, .int .i64 4, .int .i64 5, .int .i64 6] 3) = W := ⟨_, rfl⟩
      rw [hW2] at B2 hT hs2
      have HS2 := Lib.hid hs2
      have t0 : W2.cell? ⟨Y0, 0, none⟩ = some (.int .i64 0) := by rw [(row_cell hT 0).1]; rfl
      have t1 : W2.cell? ⟨Y0, 1, none⟩ = some (.int .i64 1) := by rw [(row_cell hT 1).1]; rfl
      have t2 : W2.cell? ⟨Y0, 2, none⟩ = some (.int .i64 4) := by rw [(row_cell hT 2).1]; rfl
      have t3 : W2.cell? ⟨Y0, 3, none⟩ = some (.int .i64 5) := by rw [(row_cell hT 3).1]; rfl
      have t4 : W2.cell? ⟨Y0, 4, none⟩ = some (.int .i64 6) := by rw [(row_cell hT 4).1]; rfl
      clear hT hlo2
      rcases hc5 with rfl | rfl | rfl | rfl | rfl
      · go_wp2_with fail
        go_meet
        have Q := G.out W2 (Y0 + 1) 0 (by omega) B2.out (by have := HL2.out; have := HS2.out; omega) HS2.out
        first | exact Q | ((repeat apply Exists.intro); exact ⟨Q, rfl⟩)
      · go_wp2_with fail
        go_meet
        have Q := G.out W2 (Y0 + 1) 1 (by omega) B2.out (by have := HL2.out; have := HS2.out; omega) HS2.out
        first | exact Q | ((repeat apply Exists.intro); exact ⟨Q, rfl⟩)
      · go_wp2_with fail
        go_meet
        have Q := G.out W2 (Y0 + 1) 4 (by omega) B2.out (by have := HL2.out; have := HS2.out; omega) HS2.out
        first | exact Q | ((repeat apply Exists.intro); exact ⟨Q, rfl⟩)
      · go_wp2_with fail
        go_meet
        have Q := G.out W2 (Y0 + 1) 5 (by omega) B2.out (by have := HL2.out; have := HS2.out; omega) HS2.out
        first | exact Q | ((repeat apply Exists.intro); exact ⟨Q, rfl⟩)
      · go_wp2_with fail
        go_meet
        have Q := G.out W2 (Y0 + 1) 6 (by omega) B2.out (by have := HL2.out; have := HS2.out; omega) HS2.out
        first | exact Q | ((repeat apply Exists.intro); exact ⟨Q, rfl⟩)
  case rest =>
    obtain ⟨w3, hw3⟩ : ∃ w', w' = wc := ⟨_, rfl⟩
    subst hw3
    obtain ⟨⟨A, m, c, rs, R, rfl, hm, hrr, hnl, hg, hb⟩⟩ := hcut
    have HG := Lib.hid hg
    have B3 := Lib.hid hb
    have S3 : Hid (lo ≤ w3.heap.size) := by have := hb.size; have := HLO.out; unfold Hid; omega
    have CN := Lib.hid (new_any false A m c rs w3 hrr hm)
    rw [hnl] at CN
    clear hm hrr hnl hg hb B1 S1 hbnk
    go_wp2_with fail
    refine CN.out.mono ?_
    rintro r w4 ⟨b4, h1, _⟩
    obtain ⟨rfl, q4⟩ := h1 (by first | rfl | trivial)
    have Q4 : Hid (MV w4 (w3.heap.size + 2) w3.heap.size (w3.heap.size + 1) false R []) := q4
    have B4 : Hid (Below lo w w4) := B3.out.trans (b4.mono S3.out)
    obtain ⟨g1, hg1⟩ : ∃ g, w3.heap.size = g := ⟨_, rfl⟩
    rw [hg1] at Q4 S3
    rw [hg1]
    clear q4 b4 h1 CN B3 hg1
    have CN := Lib.hid (new_any true none 0 0 [] w4 ⟨rfl, fun i x hx => by simp at hx⟩ (by omega))
    rw [show newL true [] [] = (0, []) from rfl] at CN
    go_wp2_with fail
    refine CN.out.mono ?_
    rintro r w5 ⟨b5, h1, _⟩
    obtain ⟨rfl, q5⟩ := h1 (by first | rfl | trivial)
    have P5 : Hid (MV w5 (w4.heap.size + 2) w4.heap.size (w4.heap.size + 1) true [] []) := q5
    have Q5 := Lib.hid (Q4.out.below b5)
    have HS5 : Hid (g1 + 2 < w4.heap.size ∧ g1 + 1 < w4.heap.size ∧ g1 < w4.heap.size) := ⟨Q4.out.lt, Q4.out.ct.lt, Q4.out.rl.lt⟩
    have B5 : Hid (Below lo w w5) := B4.out.trans (b5.mono (by have := S3.out; have := HS5.out; omega))
    obtain ⟨g2, hg2⟩ : ∃ g, w4.heap.size = g := ⟨_, rfl⟩
    rw [hg2] at P5 HS5
    rw [hg2]
    clear q5 b5 h1 CN Q4 B4 hg2
    have hal : Below w5.heap.size w5 (w5.alloc (.cells #[.int .i64 0, .int .i64 0] 40)) := (Below.refl _ _).alloc (Nat.le_refl _) _
    have hb0 : (w5.alloc (.cells #[.int .i64 0, .int .i64 0] 40)).heap[w5.heap.size]? = some (.cells #[.int .i64 0, .int .i64 0] 40 (0, 0)) := heap_alloc_new _ _
    have Q6 := Lib.hid (Q5.out.below hal)
    have P6 := Lib.hid (P5.out.below hal)
    have B6 : Hid (Below lo w (w5.alloc (.cells #[.int .i64 0, .int .i64 0] 40))) := B5.out.trans (hal.mono (by have := P5.out.lt; have := S3.out; have := HS5.out; omega))
    have hXl : g2 + 2 < w5.heap.size := P5.out.lt
    obtain ⟨X, hX⟩ : ∃ X, w5.heap.size = X := ⟨_, rfl⟩
    obtain ⟨W6, hW6⟩ : ∃ W, w5.alloc (.cells #[.int .i64 0, .int .i64 0] 40) = W := ⟨_, rfl⟩
    rw [hW6] at hb0 Q6 P6 B6
    rw [hX] at hb0 hXl
    have HXL : Hid (g2 + 2 < X ∧ lo ≤ g2) := ⟨hXl, by have := S3.out; have := HS5.out; omega⟩
    have HB6 := Lib.hid hb0
    have z0 : W6.frozen? ⟨X, 0, none⟩ = false := (row_cell hb0 0).2
    have z1 : W6.frozen? ⟨X, 1, none⟩ = false := (row_cell hb0 1).2
    have y0 : W6.cell? ⟨X, 0, none⟩ = some (.int .i64 0) := by rw [(row_cell hb0 0).1]; rfl
    have y1 : W6.cell? ⟨X, 1, none⟩ = some (.int .i64 0) := by rw [(row_cell hb0 1).1]; rfl
    have hs1 := set_at (set_at hb0 0 (.int .i64 0)) 1 (.int .i64 2)
    have f1 : Fo (fun b => b = X) W6 ((W6.setCell ⟨X, 0, none⟩ (.int .i64 0)).setCell ⟨X, 1, none⟩ (.int .i64 2)) := ((Fo.refl (fun b => b = X) W6).setCell (.inl rfl) _ _).setCell (.inl rfl) _ _
    obtain ⟨W7, hW7⟩ : ∃ W, (W6.setCell ⟨X, 0, none⟩ (.int .i64 0)).setCell ⟨X, 1, none⟩ (.int .i64 2) = W := ⟨_, rfl⟩
    rw [hW7] at hs1 f1
    have X7 : Hid (W7.heap[X]? = some (.cells #[.int .i64 0, .int .i64 2] 40 (0, 0))) := hs1
    have F7 := Lib.hid f1
    have q70 : W7.frozen? ⟨X, 0, none⟩ = false := (row_cell hs1 0).2
    have q71 : W7.frozen? ⟨X, 1, none⟩ = false := (row_cell hs1 1).2
    have r70 : W7.cell? ⟨X, 0, none⟩ = some (.int .i64 0) := by rw [(row_cell hs1 0).1]; rfl
    have r71 : W7.cell? ⟨X, 1, none⟩ = some (.int .i64 2) := by rw [(row_cell hs1 1).1]; rfl
    clear hal hb0 hs1 f1 Q5 P5 B5
    by_cases hp : p < 0
    · have gp : decide (p < 0) = true := by simpa using hp
      have HP := Lib.hid hp
      have hs2 := set_at (set_at X7.out 0 (.int .i64 1)) 1 (.int .i64 6)
      have f2 : Fo (fun b => b = X) W7 ((W7.setCell ⟨X, 0, none⟩ (.int .i64 1)).setCell ⟨X, 1, none⟩ (.int .i64 6)) := ((Fo.refl (fun b => b = X) W7).setCell (.inl rfl) _ _).setCell (.inl rfl) _ _
      obtain ⟨W8, hW8⟩ : ∃ W, (W7.setCell ⟨X, 0, none⟩ (.int .i64 1)).setCell ⟨X, 1, none⟩ (.int .i64 6) = W := ⟨_, rfl⟩
      rw [hW8] at hs2 f2
      have FX : Hid (Fo (fun b => b = X) W6 W8) := F7.out.trans f2 (fun i hi => .inl hi)
      have c0 : W8.drew.cell? ⟨X, 0, none⟩ = some (.int .i64 1) := by
        have : W8.cell? ⟨X, 0, none⟩ = some (.int .i64 1) := by rw [(row_cell hs2 0).1]; rfl
        exact this
      have c1 : W8.drew.cell? ⟨X, 1, none⟩ = some (.int .i64 6) := by
        have : W8.cell? ⟨X, 1, none⟩ = some (.int .i64 6) := by rw [(row_cell hs2 1).1]; rfl
        exact this
      clear hp hs2 f2
      have DV : Hid (decV false R p n = (1, 6)) := by unfold Hid; rw [bare_dec p n R HN.out HG.out]; exact if_pos HP.out
      have QD : Hid (MV W8.drew (g1 + 2) g1 (g1 + 1) false R []) := (Q6.out.fo FX.out (by have := HS5.out; have := HXL.out; omega) (by have := HS5.out; have := HXL.out; omega) (by have := HS5.out; have := HXL.out; omega)).keep rfl
      have PD : Hid (MV W8.drew (g2 + 2) g2 (g2 + 1) true [] []) := (P6.out.fo FX.out (by have := HXL.out; omega) (by have := HXL.out; omega) (by have := HXL.out; omega)).keep rfl
      have BD : Hid (Below lo w W8.drew) := (B6.out.trans (FX.out.below (fun b hb => by rw [hb]; have := HXL.out; omega) (by have := Q6.out.lt; have := S3.out; omega))).drew
      have C1 := decide_any (g1 + 2) g1 (g1 + 1) false R [] p n W8.drew QD.out
      rw [DV.out] at C1
      have C1 := Lib.hid C1
      go_upto_region 14 with fail
      refine wp_region_held_drew (S := (fun w' => w'.cell? ⟨X, 0, none⟩ = some (.int .i64 1) ∧ w'.cell? ⟨X, 1, none⟩ = some (.int .i64 6))) (by kernel_rfl) ⟨c0, c1⟩ (fun hHeld => ?_)
      refine takeD (i := 0) (d := some 70) (v := ?_) _ rfl rfl (by kernel_rfl) (by kernel_rfl) (by kernel_rfl) (fun _ _ _ h => h) (by rfl) ?_ (by assumption) ?_
      rotate_left
      · (intro w hSw; (try dsimp only at hSw); go_simp) <;> with_reducible rfl
      try simp only [Act.put, List.setIfInBounds_toArray, List.set_cons_zero, List.set_cons_succ]
      refine takeD (i := 1) (d := some 71) (v := ?_) _ rfl rfl (by kernel_rfl) (by kernel_rfl) (by kernel_rfl) (fun _ _ _ h => h) (by rfl) ?_ (by assumption) ?_
      rotate_left
      · (intro w hSw; (try dsimp only at hSw); go_simp) <;> with_reducible rfl
      try simp only [Act.put, List.setIfInBounds_toArray, List.set_cons_zero, List.set_cons_succ]
      refine takeD (i := 2) (d := some 72) (v := ?_) _ rfl rfl (by kernel_rfl) (by kernel_rfl) (by kernel_rfl) (fun _ _ _ h => h) (by rfl) ?_ (by assumption) ?_
      rotate_left
      · (intro w hSw; (try dsimp only at hSw); go_simp) <;> with_reducible rfl
      try simp only [Act.put, List.setIfInBounds_toArray, List.set_cons_zero, List.set_cons_succ]
      refine takeD (i := 4) (d := some 74) (v := ?_) _ rfl rfl (by kernel_rfl) (by kernel_rfl) (by kernel_rfl) (fun _ _ _ h => h) (by rfl) ?_ (by assumption) ?_
      rotate_left
      · (intro w hSw; (try dsimp only at hSw); go_simp) <;> with_reducible rfl
      try simp only [Act.put, List.setIfInBounds_toArray, List.set_cons_zero, List.set_cons_succ]
      refine wpAnyH_ready (rs := [3]) (by kernel_rfl) (by simp) ?_
      refine AllReadyH.cons rfl (fun K0 hK => ?_) AllReadyH.nil
      try go_simp
      go_at_call 15
      refine C1.out.mono ?_
      rintro r w8 ⟨rfl, m8, f8⟩
      have P8 := Lib.hid (PD.out.fo f8 (by have := HS5.out; omega) (by have := HS5.out; omega) (by have := HS5.out; omega))
      have B8 : Hid (Below lo w w8) := BD.out.trans (f8.below (fun b hb => by rw [hb]; have := S3.out; omega) (by have := PD.out.lt; have := HXL.out; omega))
      have kp := (⟨f8.cell (by show ¬ X = g1 + 1; have := HS5.out; have := HXL.out; omega) hHeld.1, f8.cell (by show ¬ X = g1 + 1; have := HS5.out; have := HXL.out; omega) hHeld.2⟩ : w8.cell? ⟨X, 0, none⟩ = some (.int .i64 1) ∧ w8.cell? ⟨X, 1, none⟩ = some (.int .i64 6))
      clear m8 f8 C1 QD PD BD
      have C2 := decide_any (g2 + 2) g2 (g2 + 1) true [] [] p n w8 P8.out
      rw [bare_mod p n HN.out] at C2
      have C2 := Lib.hid C2
      try go_wp2_with fail
      refine hK.out _ _ kp (fun hHeld => ?_)
      clear kp hK K0
      try simp only [Act.put, List.setIfInBounds_toArray, List.set_cons_zero, List.set_cons_succ]
      refine takeD (i := 5) (d := some 75) (v := ?_) _ rfl rfl (by kernel_rfl) (by kernel_rfl) (by kernel_rfl) (fun _ _ _ h => h) (by rfl) ?_ (by assumption) ?_
      rotate_left
      · (intro w hSw; (try dsimp only at hSw); go_simp) <;> with_reducible rfl
      try simp only [Act.put, List.setIfInBounds_toArray, List.set_cons_zero, List.set_cons_succ]
      refine takeD (i := 6) (d := some 76) (v := ?_) _ rfl rfl (by kernel_rfl) (by kernel_rfl) (by kernel_rfl) (fun _ _ _ h => h) (by rfl) ?_ (by assumption) ?_
      rotate_left
      · (intro w hSw; (try dsimp only at hSw); go_simp) <;> with_reducible rfl
      try simp only [Act.put, List.setIfInBounds_toArray, List.set_cons_zero, List.set_cons_succ]
      refine takeD (i := 7) (d := some 77) (v := ?_) _ rfl rfl (by kernel_rfl) (by kernel_rfl) (by kernel_rfl) (fun _ _ _ h => h) (by rfl) ?_ (by assumption) ?_
      rotate_left
      · (intro w hSw; (try dsimp only at hSw); go_simp) <;> with_reducible rfl
      try simp only [Act.put, List.setIfInBounds_toArray, List.set_cons_zero, List.set_cons_succ]
      refine takeD (i := 8) (d := some 78) (v := ?_) _ rfl rfl (by kernel_rfl) (by kernel_rfl) (by kernel_rfl) (fun _ _ _ h => h) (by rfl) ?_ (by assumption) ?_
      rotate_left
      · (intro w hSw; (try dsimp only at hSw); go_simp) <;> with_reducible rfl
      try simp only [Act.put, List.setIfInBounds_toArray, List.set_cons_zero, List.set_cons_succ]
      refine takeD (i := 9) (d := some 79) (v := ?_) _ rfl rfl (by kernel_rfl) (by kernel_rfl) (by kernel_rfl) (fun _ _ _ h => h) (by rfl) ?_ (by assumption) ?_
      rotate_left
      · (intro w hSw; (try dsimp only at hSw); go_simp) <;> with_reducible rfl
      try simp only [Act.put, List.setIfInBounds_toArray, List.set_cons_zero, List.set_cons_succ]
      refine takeD (i := 11) (d := some 81) (v := ?_) _ rfl rfl (by kernel_rfl) (by kernel_rfl) (by kernel_rfl) (fun _ _ _ h => h) (by rfl) ?_ (by assumption) ?_
      rotate_left
      · (intro w hSw; (try dsimp only at hSw); go_simp) <;> with_reducible rfl
      try simp only [Act.put, List.setIfInBounds_toArray, List.set_cons_zero, List.set_cons_succ]
      refine wpAnyH_ready (rs := [10]) (by kernel_rfl) (by simp) ?_
      refine AllReadyH.cons rfl (fun K0 hK => ?_) AllReadyH.nil
      try go_simp
      go_at_call 15
      refine C2.out.mono ?_
      rintro r w9 ⟨rfl, m9, f9⟩
      have B9 : Hid (Below lo w w9) := B8.out.trans (f9.below (fun b hb => by rw [hb]; have := HXL.out; omega) (by have := P8.out.lt; have := HXL.out; omega))
      have kp := (⟨f9.cell (by show ¬ X = g2 + 1; have := HXL.out; omega) hHeld.1, f9.cell (by show ¬ X = g2 + 1; have := HXL.out; omega) hHeld.2⟩ : w9.cell? ⟨X, 0, none⟩ = some (.int .i64 1) ∧ w9.cell? ⟨X, 1, none⟩ = some (.int .i64 6))
      clear m9 f9 C2
      try go_wp2_with fail
      refine hK.out _ _ kp (fun hHeld => ?_)
      clear kp hK K0
      try simp only [Act.put, List.setIfInBounds_toArray, List.set_cons_zero, List.set_cons_succ]
      refine takeD (i := 12) (d := some 82) (v := ?_) _ rfl rfl (by kernel_rfl) (by kernel_rfl) (by kernel_rfl) (fun _ _ _ h => h) (by rfl) ?_ (by assumption) ?_
      rotate_left
      · (intro w hSw; (try dsimp only at hSw); go_simp) <;> with_reducible rfl
      try simp only [Act.put, List.setIfInBounds_toArray, List.set_cons_zero, List.set_cons_succ]
      refine takeD (i := 13) (d := some 83) (v := ?_) _ rfl rfl (by kernel_rfl) (by kernel_rfl) (by kernel_rfl) (fun _ _ _ h => h) (by rfl) ?_ (by assumption) ?_
      rotate_left
      · (intro w hSw; (try dsimp only at hSw); go_simp) <;> with_reducible rfl
      try simp only [Act.put, List.setIfInBounds_toArray, List.set_cons_zero, List.set_cons_succ]
      refine takeD (i := 14) (d := some 8) (v := ?_) _ rfl rfl (by kernel_rfl) (by kernel_rfl) (by kernel_rfl) (fun _ _ _ h => h) (by rfl) ?_ (by assumption) ?_
      rotate_left
      · (intro w hSw; (try dsimp only at hSw); go_simp) <;> with_reducible rfl
      try simp only [Act.put, List.setIfInBounds_toArray, List.set_cons_zero, List.set_cons_succ]
      refine wpAnyH_done (by kernel_rfl) ?_ _
      clear hHeld
      go_wp2_with fail
      go_ret
      exact ⟨rfl, B9.out⟩
    · have gp : decide (p < 0) = false := by simpa using hp
      have HP := Lib.hid hp
      have FX := F7
      have c0 : W7.drew.cell? ⟨X, 0, none⟩ = some (.int .i64 0) := r70
      have c1 : W7.drew.cell? ⟨X, 1, none⟩ = some (.int .i64 2) := r71
      clear hp
      have DV : Hid (decV false R p n = (0, 2)) := by unfold Hid; rw [bare_dec p n R HN.out HG.out]; exact if_neg HP.out
      have QD : Hid (MV W7.drew (g1 + 2) g1 (g1 + 1) false R []) := (Q6.out.fo FX.out (by have := HS5.out; have := HXL.out; omega) (by have := HS5.out; have := HXL.out; omega) (by have := HS5.out; have := HXL.out; omega)).keep rfl
      have PD : Hid (MV W7.drew (g2 + 2) g2 (g2 + 1) true [] []) := (P6.out.fo FX.out (by have := HXL.out; omega) (by have := HXL.out; omega) (by have := HXL.out; omega)).keep rfl
      have BD : Hid (Below lo w W7.drew) := (B6.out.trans (FX.out.below (fun b hb => by rw [hb]; have := HXL.out; omega) (by have := Q6.out.lt; have := S3.out; omega))).drew
      have C1 := decide_any (g1 + 2) g1 (g1 + 1) false R [] p n W7.drew QD.out
      rw [DV.out] at C1
      have C1 := Lib.hid C1
      go_upto_region 14 with fail
      refine wp_region_held_drew (S := (fun w' => w'.cell? ⟨X, 0, none⟩ = some (.int .i64 0) ∧ w'.cell? ⟨X, 1, none⟩ = some (.int .i64 2))) (by kernel_rfl) ⟨c0, c1⟩ (fun hHeld => ?_)
      refine takeD (i := 0) (d := some 70) (v := ?_) _ rfl rfl (by kernel_rfl) (by kernel_rfl) (by kernel_rfl) (fun _ _ _ h => h) (by rfl) ?_ (by assumption) ?_
      rotate_left
      · (intro w hSw; (try dsimp only at hSw); go_simp) <;> with_reducible rfl
      try simp only [Act.put, List.setIfInBounds_toArray, List.set_cons_zero, List.set_cons_succ]
      refine takeD (i := 1) (d := some 71) (v := ?_) _ rfl rfl (by kernel_rfl) (by kernel_rfl) (by kernel_rfl) (fun _ _ _ h => h) (by rfl) ?_ (by assumption) ?_
      rotate_left
      · (intro w hSw; (try dsimp only at hSw); go_simp) <;> with_reducible rfl
      try simp only [Act.put, List.setIfInBounds_toArray, List.set_cons_zero, List.set_cons_succ]
      refine takeD (i := 2) (d := some 72) (v := ?_) _ rfl rfl (by kernel_rfl) (by kernel_rfl) (by kernel_rfl) (fun _ _ _ h => h) (by rfl) ?_ (by assumption) ?_
      rotate_left
      · (intro w hSw; (try dsimp only at hSw); go_simp) <;> with_reducible rfl
      try simp only [Act.put, List.setIfInBounds_toArray, List.set_cons_zero, List.set_cons_succ]
      refine takeD (i := 4) (d := some 74) (v := ?_) _ rfl rfl (by kernel_rfl) (by kernel_rfl) (by kernel_rfl) (fun _ _ _ h => h) (by rfl) ?_ (by assumption) ?_
      rotate_left
      · (intro w hSw; (try dsimp only at hSw); go_simp) <;> with_reducible rfl
      try simp only [Act.put, List.setIfInBounds_toArray, List.set_cons_zero, List.set_cons_succ]
      refine wpAnyH_ready (rs := [3]) (by kernel_rfl) (by simp) ?_
      refine AllReadyH.cons rfl (fun K0 hK => ?_) AllReadyH.nil
      try go_simp
      go_at_call 15
      refine C1.out.mono ?_
      rintro r w8 ⟨rfl, m8, f8⟩
      have P8 := Lib.hid (PD.out.fo f8 (by have := HS5.out; omega) (by have := HS5.out; omega) (by have := HS5.out; omega))
      have B8 : Hid (Below lo w w8) := BD.out.trans (f8.below (fun b hb => by rw [hb]; have := S3.out; omega) (by have := PD.out.lt; have := HXL.out; omega))
      have kp := (⟨f8.cell (by show ¬ X = g1 + 1; have := HS5.out; have := HXL.out; omega) hHeld.1, f8.cell (by show ¬ X = g1 + 1; have := HS5.out; have := HXL.out; omega) hHeld.2⟩ : w8.cell? ⟨X, 0, none⟩ = some (.int .i64 0) ∧ w8.cell? ⟨X, 1, none⟩ = some (.int .i64 2))
      clear m8 f8 C1 QD PD BD
      have C2 := decide_any (g2 + 2) g2 (g2 + 1) true [] [] p n w8 P8.out
      rw [bare_mod p n HN.out] at C2
      have C2 := Lib.hid C2
      try go_wp2_with fail
      refine hK.out _ _ kp (fun hHeld => ?_)
      clear kp hK K0
      try simp only [Act.put, List.setIfInBounds_toArray, List.set_cons_zero, List.set_cons_succ]
      refine takeD (i := 5) (d := some 75) (v := ?_) _ rfl rfl (by kernel_rfl) (by kernel_rfl) (by kernel_rfl) (fun _ _ _ h => h) (by rfl) ?_ (by assumption) ?_
      rotate_left
      · (intro w hSw; (try dsimp only at hSw); go_simp) <;> with_reducible rfl
      try simp only [Act.put, List.setIfInBounds_toArray, List.set_cons_zero, List.set_cons_succ]
      refine takeD (i := 6) (d := some 76) (v := ?_) _ rfl rfl (by kernel_rfl) (by kernel_rfl) (by kernel_rfl) (fun _ _ _ h => h) (by rfl) ?_ (by assumption) ?_
      rotate_left
      · (intro w hSw; (try dsimp only at hSw); go_simp) <;> with_reducible rfl
      try simp only [Act.put, List.setIfInBounds_toArray, List.set_cons_zero, List.set_cons_succ]
      refine takeD (i := 7) (d := some 77) (v := ?_) _ rfl rfl (by kernel_rfl) (by kernel_rfl) (by kernel_rfl) (fun _ _ _ h => h) (by rfl) ?_ (by assumption) ?_
      rotate_left
      · (intro w hSw; (try dsimp only at hSw); go_simp) <;> with_reducible rfl
      try simp only [Act.put, List.setIfInBounds_toArray, List.set_cons_zero, List.set_cons_succ]
      refine takeD (i := 8) (d := some 78) (v := ?_) _ rfl rfl (by kernel_rfl) (by kernel_rfl) (by kernel_rfl) (fun _ _ _ h => h) (by rfl) ?_ (by assumption) ?_
      rotate_left
      · (intro w hSw; (try dsimp only at hSw); go_simp) <;> with_reducible rfl
      try simp only [Act.put, List.setIfInBounds_toArray, List.set_cons_zero, List.set_cons_succ]
      refine takeD (i := 9) (d := some 79) (v := ?_) _ rfl rfl (by kernel_rfl) (by kernel_rfl) (by kernel_rfl) (fun _ _ _ h => h) (by rfl) ?_ (by assumption) ?_
      rotate_left
      · (intro w hSw; (try dsimp only at hSw); go_simp) <;> with_reducible rfl
      try simp only [Act.put, List.setIfInBounds_toArray, List.set_cons_zero, List.set_cons_succ]
      refine takeD (i := 11) (d := some 81) (v := ?_) _ rfl rfl (by kernel_rfl) (by kernel_rfl) (by kernel_rfl) (fun _ _ _ h => h) (by rfl) ?_ (by assumption) ?_
      rotate_left
      · (intro w hSw; (try dsimp only at hSw); go_simp) <;> with_reducible rfl
      try simp only [Act.put, List.setIfInBounds_toArray, List.set_cons_zero, List.set_cons_succ]
      refine wpAnyH_ready (rs := [10]) (by kernel_rfl) (by simp) ?_
      refine AllReadyH.cons rfl (fun K0 hK => ?_) AllReadyH.nil
      try go_simp
      go_at_call 15
      refine C2.out.mono ?_
      rintro r w9 ⟨rfl, m9, f9⟩
      have B9 : Hid (Below lo w w9) := B8.out.trans (f9.below (fun b hb => by rw [hb]; have := HXL.out; omega) (by have := P8.out.lt; have := HXL.out; omega))
      have kp := (⟨f9.cell (by show ¬ X = g2 + 1; have := HXL.out; omega) hHeld.1, f9.cell (by show ¬ X = g2 + 1; have := HXL.out; omega) hHeld.2⟩ : w9.cell? ⟨X, 0, none⟩ = some (.int .i64 0) ∧ w9.cell? ⟨X, 1, none⟩ = some (.int .i64 2))
      clear m9 f9 C2
      try go_wp2_with fail
      refine hK.out _ _ kp (fun hHeld => ?_)
      clear kp hK K0
      try simp only [Act.put, List.setIfInBounds_toArray, List.set_cons_zero, List.set_cons_succ]
      refine takeD (i := 12) (d := some 82) (v := ?_) _ rfl rfl (by kernel_rfl) (by kernel_rfl) (by kernel_rfl) (fun _ _ _ h => h) (by rfl) ?_ (by assumption) ?_
      rotate_left
      · (intro w hSw; (try dsimp only at hSw); go_simp) <;> with_reducible rfl
      try simp only [Act.put, List.setIfInBounds_toArray, List.set_cons_zero, List.set_cons_succ]
      refine takeD (i := 13) (d := some 83) (v := ?_) _ rfl rfl (by kernel_rfl) (by kernel_rfl) (by kernel_rfl) (fun _ _ _ h => h) (by rfl) ?_ (by assumption) ?_
      rotate_left
      · (intro w hSw; (try dsimp only at hSw); go_simp) <;> with_reducible rfl
      try simp only [Act.put, List.setIfInBounds_toArray, List.set_cons_zero, List.set_cons_succ]
      refine takeD (i := 14) (d := some 8) (v := ?_) _ rfl rfl (by kernel_rfl) (by kernel_rfl) (by kernel_rfl) (fun _ _ _ h => h) (by rfl) ?_ (by assumption) ?_
      rotate_left
      · (intro w hSw; (try dsimp only at hSw); go_simp) <;> with_reducible rfl
      try simp only [Act.put, List.setIfInBounds_toArray, List.set_cons_zero, List.set_cons_succ]
      refine wpAnyH_done (by kernel_rfl) ?_ _
      clear hHeld
      go_wp2_with fail
      go_ret
      exact ⟨rfl, B9.out⟩
end Go.Proofs.Ythnlkfcfiieddaa.Hl
