/-
  What else a server does. Each statement bears its own conditions.
-/
import Derived.Test.YtehbcoopggpmjaaBgA
namespace Go.Proofs.Ytehbcoopggpmjaa.Bg
open Go.RowKit Go.Proofs.Ytehbcoopggpmjaa.F 
set_option linter.unusedVariables false
set_option linter.unusedSimpArgs false
/-- How many ticks are charged. -/
def chN (s : Sv) (t n : Int) : Int := min (max n 0) (leftV s t)
/-- So many ticks are charged in a period. -/
def useS (s : Sv) (q n : Int) : Sv := if q = s.last then ⟨s.size, s.per, s.frm, s.last, s.used + n⟩ else ⟨s.size, s.per, s.frm, q, n⟩
def chS (s : Sv) (t n : Int) : Sv := if 0 < chN s t n then useS s (whV s t) (chN s t n) else s
def resetS (s : Sv) (t : Int) : Sv := if 0 ≤ t ∧ t ≤ 1099511627776 then ⟨s.size, s.per, t, 0, 0⟩ else s
theorem resetS_ok {s : Sv} (h : s.ok) (t : Int) : (resetS s t).ok := by
  unfold resetS
  split
  · rename_i ht
    exact ⟨h.s1, h.sp, h.pm, ht.1, ht.2, by simp, by simp, by simp, by have := h.s1; simp; omega⟩
  · exact h
/-- What is charged fits. -/
theorem ch_fits {s : Sv} {t n : Int} (h : s.ok) (hc : 0 < chN s t n) : hasP s t ∧ s.last ≤ whV s t ∧ chN s t n ≤ (if whV s t = s.last then s.size - s.used else s.size) ∧ chN s t n ≤ nextV s t - t := by
  have h1 : chN s t n ≤ leftV s t := by unfold chN; omega
  have h2 : 0 < leftV s t := by omega
  unfold leftV at h1 h2
  by_cases ht : hasP s t
  · rw [if_neg (fun e => e ht)] at h1 h2
    by_cases hl : whV s t < s.last
    · rw [if_pos hl] at h2; omega
    · rw [if_neg hl] at h1
      exact ⟨ht, by omega, by omega, by omega⟩
  · rw [if_pos ht] at h2; omega
theorem useS_ok {s : Sv} (h : s.ok) {q n : Int} (hq : s.last ≤ q) (hq1 : q ≤ 1099511627776) (hn : 0 < n) (hn1 : n ≤ (if q = s.last then s.size - s.used else s.size)) : (useS s q n).ok := by
  have h1 := h.l0
  have h2 := h.u0
  have h3 := h.us
  unfold useS
  split
  · rename_i e; rw [if_pos e] at hn1; exact ⟨h.s1, h.sp, h.pm, h.f0, h.f1, h.l0, h.l1, by simp only; omega, by simp only; omega⟩
  · rename_i e; rw [if_neg e] at hn1; exact ⟨h.s1, h.sp, h.pm, h.f0, h.f1, by simp only; omega, hq1, by simp only; omega, hn1⟩
theorem chS_ok {s : Sv} (h : s.ok) (t n : Int) : (chS s t n).ok := by
  unfold chS
  split
  · rename_i hc
    obtain ⟨a, b, c, d⟩ := ch_fits h hc
    have hw := wh_facts h a
    exact useS_ok h b (by have := a.2; have := h.f0; omega) hc c
  · exact h
set_option maxRecDepth 100000 in
set_option maxHeartbeats 4000000 in
theorem use_any (g : Nat) (s : Sv) (q n : Int) (w : World) (h : SV w g s) (hk : (useS s q n).ok) (hn : 0 ≤ n ∧ n ≤ 1048576) : Calls Try.prog 26 #[.pointer (some ⟨g, 0, none⟩), .int .i64 q, .int .i64 n] w fun e w' => e = .returned (.tuple #[]) ∧ SV w' g (useS s q n) ∧ Fo (fun b => b = g) w w' := by
  have HK := Lib.hid hk
  have ok := h.ok
  obtain ⟨Z, P, F, K, U⟩ := s
  have hp := h.hp
  have HP := Lib.hid hp
  have h1 := ok.u0
  have h2 := ok.us
  have h3 := ok.sp
  have h4 := ok.pm
  simp only at h1 h2 h3 h4
  have v1 : IntKind.i64.wrap (U + n) = U + n := by rw [IntKind.wrap_i64]; omega
  have v2 : IntKind.i64.wrap n = n := by rw [IntKind.wrap_i64]; omega
  have v3 : IntKind.i64.wrap (0 + n) = n := by rw [IntKind.wrap_i64]; omega
  have d0 : w.cell? ⟨g, 0, none⟩ = some (.int .i64 Z) := by rw [(row_cell hp 0).1]; rfl
  have dz0 : w.frozen? ⟨g, 0, none⟩ = false := (row_cell hp 0).2
  have d1 : w.cell? ⟨g, 1, none⟩ = some (.int .i64 P) := by rw [(row_cell hp 1).1]; rfl
  have dz1 : w.frozen? ⟨g, 1, none⟩ = false := (row_cell hp 1).2
  have d2 : w.cell? ⟨g, 2, none⟩ = some (.int .i64 F) := by rw [(row_cell hp 2).1]; rfl
  have dz2 : w.frozen? ⟨g, 2, none⟩ = false := (row_cell hp 2).2
  have d3 : w.cell? ⟨g, 3, none⟩ = some (.int .i64 K) := by rw [(row_cell hp 3).1]; rfl
  have dz3 : w.frozen? ⟨g, 3, none⟩ = false := (row_cell hp 3).2
  have d4 : w.cell? ⟨g, 4, none⟩ = some (.int .i64 U) := by rw [(row_cell hp 4).1]; rfl
  have dz4 : w.frozen? ⟨g, 4, none⟩ = false := (row_cell hp 4).2
  clear hp h h1 h2 h3 h4 hn hk ok
  by_cases he : q = K
  · subst he
    have HE : Hid (useS ⟨Z, P, F, q, U⟩ q n = ⟨Z, P, F, q, U + n⟩) := if_pos rfl
    rw [HE.out] at HK ⊢
    go_enter Try.func26, Try.ntmps26
    go_wp2_with (first | go_end0)
    try go_end0
    exact ⟨⟨set_at HP.out 4 _, HK.out⟩, (Fo.refl (fun b => b = g) _).setCell (.inl rfl) _ _⟩
  · have g1 : (q != K) = true := by simpa using he
    have HE : Hid (useS ⟨Z, P, F, K, U⟩ q n = ⟨Z, P, F, q, n⟩) := if_neg he
    rw [HE.out] at HK ⊢
    have e4 : ((w.setCell ⟨g, 3, none⟩ (.int .i64 q)).setCell ⟨g, 4, none⟩ (.int .i64 0)).cell? ⟨g, 4, none⟩ = some (.int .i64 0) := by rw [(row_cell (set_at (set_at HP.out 3 _) 4 _) 4).1]; rfl
    have ez4 : ((w.setCell ⟨g, 3, none⟩ (.int .i64 q)).setCell ⟨g, 4, none⟩ (.int .i64 0)).frozen? ⟨g, 4, none⟩ = false := (row_cell (set_at (set_at HP.out 3 _) 4 _) 4).2
    clear he
    go_enter Try.func26, Try.ntmps26
    go_wp2_with (first | go_end0)
    try go_end0
    exact ⟨⟨set_at (set_at (set_at HP.out 3 _) 4 _) 4 _, HK.out⟩, (((Fo.refl (fun b => b = g) _).setCell (.inl rfl) _ _).setCell (.inl rfl) _ _).setCell (.inl rfl) _ _⟩
set_option maxRecDepth 100000 in
set_option maxHeartbeats 4000000 in
theorem charge_any (g : Nat) (s : Sv) (t n : Int) (w : World) (h : SV w g s) : Calls Try.prog 17 #[.pointer (some ⟨g, 0, none⟩), .int .i64 t, .int .i64 n] w fun e w' => e = .returned (.tuple #[.int .i64 (chN s t n), .bool (decide (chN s t n < max n 0))]) ∧ SV w' g (chS s t n) ∧ Fo (fun b => b = g) w w' := by
  have HK := Lib.hid (chS_ok h.ok t n)
  obtain ⟨hl0, hl1⟩ := left_facts (t := t) h.ok
  have hzs : s.size ≤ 1048576 := by have := h.ok.sp; have := h.ok.pm; omega
  have HC : Hid (0 ≤ chN s t n ∧ chN s t n ≤ 1048576) := by unfold Hid chN; omega
  obtain ⟨c, hc⟩ : ∃ c, chN s t n = c := ⟨_, rfl⟩
  have HCC := Lib.hid hc
  rw [hc] at HC
  have hm : min (max n 0) (leftV s t) = c := hc
  rw [hc]
  obtain ⟨y, hy⟩ : ∃ y, max n 0 = y := ⟨_, rfl⟩
  rw [hy] at hm ⊢
  have CL := Lib.hid (left_any g s t w h)
  have HH := Lib.hid h
  clear hl0 hl1 hzs hc
  by_cases h0 : 0 < c
  · have g0 : decide (0 < c) = true := by simpa using h0
    have FT : Hid (hasP s t ∧ s.last ≤ whV s t ∧ c ≤ (if whV s t = s.last then s.size - s.used else s.size) ∧ c ≤ nextV s t - t) := by have := ch_fits (t := t) (n := n) h.ok (by rw [HCC.out]; exact h0); rw [HCC.out] at this; exact this
    have HS : Hid (chS s t n = useS s (whV s t) c) := by unfold Hid chS; rw [HCC.out, if_pos h0]
    rw [HS.out] at HK ⊢
    clear h
    go_enter Try.func17, Try.ntmps17
    go_wp2_with fail
    refine CL.out.mono ?_
    rintro e w1 ⟨rfl, m, hm1⟩
    have S1 : Hid (SV w1 g s) := by rw [hm1]; exact HH.out.drewN _
    have F1 : Hid (Fo (fun b => b = g) w w1) := by rw [hm1]; exact (Fo.refl _ w).drewN _
    clear hm1
    go_wp2_with fail
    refine (which_any g s t w1 S1.out FT.out.1).mono ?_
    rintro e w2 ⟨rfl, m2, hm2⟩
    have S2 : Hid (SV w2 g s) := by rw [hm2]; exact S1.out.drewN _
    have F2 : Hid (Fo (fun b => b = g) w w2) := by rw [hm2]; exact F1.out.drewN _
    clear hm2 S1 F1
    go_wp2_with fail
    refine (use_any g s (whV s t) c w2 S2.out HK.out HC.out).mono ?_
    rintro e w3 ⟨rfl, q3, f3⟩
    have S3 := Lib.hid q3
    have F3 : Hid (Fo (fun b => b = g) w w3) := F2.out.trans f3 (fun i hi => .inl hi)
    clear q3 f3 S2 F2
    go_wp2_with fail
    go_ret2
    exact ⟨rfl, S3.out, F3.out⟩
  · have g0 : decide (0 < c) = false := by simpa using h0
    have HS : Hid (chS s t n = s) := by unfold Hid chS; rw [HCC.out, if_neg h0]
    rw [HS.out] at HK ⊢
    clear h
    go_enter Try.func17, Try.ntmps17
    go_wp2_with fail
    refine CL.out.mono ?_
    rintro e w1 ⟨rfl, m, hm1⟩
    have S1 : Hid (SV w1 g s) := by rw [hm1]; exact HH.out.drewN _
    have F1 : Hid (Fo (fun b => b = g) w w1) := by rw [hm1]; exact (Fo.refl _ w).drewN _
    clear hm1
    go_wp2_with fail
    go_ret2
    exact ⟨rfl, S1.out, F1.out⟩
theorem charge_nil (t n : Int) (w : World) : Calls Try.prog 17 #[.pointer none, .int .i64 t, .int .i64 n] w fun e w' => e = .returned (.tuple #[.int .i64 0, .bool (decide (0 < n))]) ∧ ∃ m, w' = w.drewN m := by
  have CL := Lib.hid (left_nil t w)
  obtain ⟨y, hy⟩ : ∃ y, max n 0 = y := ⟨_, rfl⟩
  have hm : min y 0 = 0 := by omega
  have HR : Hid (decide (0 < y) = decide (0 < n)) := by
    unfold Hid
    by_cases h : 0 < n
    · rw [decide_eq_true h, decide_eq_true (by omega)]
    · rw [decide_eq_false h, decide_eq_false (by omega)]
  go_enter Try.func17, Try.ntmps17
  go_wp2_with fail
  refine CL.out.mono ?_
  rintro e w1 ⟨rfl, m, hm1⟩
  have HM := Lib.hid hm1
  clear hm1
  go_wp2_with fail
  go_ret2
  exact ⟨by rw [← HR.out]; rfl, _, HM.out⟩
set_option maxRecDepth 100000 in
set_option maxHeartbeats 4000000 in
theorem reset_any (g : Nat) (s : Sv) (t : Int) (w : World) (h : SV w g s) : Calls Try.prog 18 #[.pointer (some ⟨g, 0, none⟩), .int .i64 t] w fun e w' => e = .returned (.tuple #[]) ∧ SV w' g (resetS s t) ∧ Fo (fun b => b = g) w w' := by
  have HK := Lib.hid (resetS_ok h.ok t)
  have HH := Lib.hid h
  obtain ⟨Z, P, F, K, U⟩ := s
  have hp := h.hp
  have HP := Lib.hid hp
  have hn : (binOp .neq 23 (.pointer (some ⟨g, 0, none⟩)) (.pointer none)).run Try.prog w = .ok (.bool true) w := rfl
  have d0 : w.cell? ⟨g, 0, none⟩ = some (.int .i64 Z) := by rw [(row_cell hp 0).1]; rfl
  have dz0 : w.frozen? ⟨g, 0, none⟩ = false := (row_cell hp 0).2
  have d1 : w.cell? ⟨g, 1, none⟩ = some (.int .i64 P) := by rw [(row_cell hp 1).1]; rfl
  have dz1 : w.frozen? ⟨g, 1, none⟩ = false := (row_cell hp 1).2
  have d2 : w.cell? ⟨g, 2, none⟩ = some (.int .i64 F) := by rw [(row_cell hp 2).1]; rfl
  have dz2 : w.frozen? ⟨g, 2, none⟩ = false := (row_cell hp 2).2
  have d3 : w.cell? ⟨g, 3, none⟩ = some (.int .i64 K) := by rw [(row_cell hp 3).1]; rfl
  have dz3 : w.frozen? ⟨g, 3, none⟩ = false := (row_cell hp 3).2
  have d4 : w.cell? ⟨g, 4, none⟩ = some (.int .i64 U) := by rw [(row_cell hp 4).1]; rfl
  have dz4 : w.frozen? ⟨g, 4, none⟩ = false := (row_cell hp 4).2
  clear hp h
  by_cases h1 : 0 ≤ t
  · have g1 : decide (0 ≤ t) = true := by simpa using h1
    by_cases h2 : t ≤ 1099511627776
    · have g2 : decide (t ≤ 1099511627776) = true := by simpa using h2
      have HE : Hid (resetS ⟨Z, P, F, K, U⟩ t = ⟨Z, P, t, 0, 0⟩) := if_pos ⟨h1, h2⟩
      rw [HE.out] at HK ⊢
      clear h1 h2
      go_enter Try.func18, Try.ntmps18
      go_wp2_with (first | go_end0)
      try go_end0
      exact ⟨⟨set_at (set_at (set_at (set_at (set_at HP.out 0 _) 1 _) 2 _) 3 _) 4 _, HK.out⟩, (((((Fo.refl (fun b => b = g) _).setCell (.inl rfl) _ _).setCell (.inl rfl) _ _).setCell (.inl rfl) _ _).setCell (.inl rfl) _ _).setCell (.inl rfl) _ _⟩
    · have g2 : decide (t ≤ 1099511627776) = false := by simpa using h2
      have HE : Hid (resetS ⟨Z, P, F, K, U⟩ t = ⟨Z, P, F, K, U⟩) := if_neg (fun e => h2 e.2)
      rw [HE.out] at HK ⊢
      clear h1 h2
      go_enter Try.func18, Try.ntmps18
      go_wp2_with (first | go_end0)
      try go_end0
      exact ⟨HH.out, Fo.refl _ _⟩
  · have g1 : decide (0 ≤ t) = false := by simpa using h1
    have HE : Hid (resetS ⟨Z, P, F, K, U⟩ t = ⟨Z, P, F, K, U⟩) := if_neg (fun e => h1 e.1)
    rw [HE.out] at HK ⊢
    clear h1
    go_enter Try.func18, Try.ntmps18
    go_wp2_with (first | go_end0)
    try go_end0
    exact ⟨HH.out, Fo.refl _ _⟩
theorem reset_nil (t : Int) (w : World) : Calls Try.prog 18 #[.pointer none, .int .i64 t] w fun e w' => e = .returned (.tuple #[]) ∧ w' = w := by
  go_enter Try.func18, Try.ntmps18
  go_wp2_with (first | go_end0)
  try go_end0
  all_goals first | exact ⟨rfl, rfl⟩ | rfl
set_option maxRecDepth 100000 in
set_option maxHeartbeats 4000000 in
theorem clone_any (g : Nat) (s : Sv) (w : World) (h : SV w g s) : Calls Try.prog 20 #[.pointer (some ⟨g, 0, none⟩)] w fun e w' => e = .returned (.pointer (some ⟨w.heap.size, 0, none⟩)) ∧ SV w' w.heap.size s ∧ Below w.heap.size w w' := by
  obtain ⟨Z, P, F, K, U⟩ := s
  have hp := h.hp
  have d0 : w.cell? ⟨g, 0, none⟩ = some (.int .i64 Z) := by rw [(row_cell hp 0).1]; rfl
  have dz0 : w.frozen? ⟨g, 0, none⟩ = false := (row_cell hp 0).2
  have d1 : w.cell? ⟨g, 1, none⟩ = some (.int .i64 P) := by rw [(row_cell hp 1).1]; rfl
  have dz1 : w.frozen? ⟨g, 1, none⟩ = false := (row_cell hp 1).2
  have d2 : w.cell? ⟨g, 2, none⟩ = some (.int .i64 F) := by rw [(row_cell hp 2).1]; rfl
  have dz2 : w.frozen? ⟨g, 2, none⟩ = false := (row_cell hp 2).2
  have d3 : w.cell? ⟨g, 3, none⟩ = some (.int .i64 K) := by rw [(row_cell hp 3).1]; rfl
  have dz3 : w.frozen? ⟨g, 3, none⟩ = false := (row_cell hp 3).2
  have d4 : w.cell? ⟨g, 4, none⟩ = some (.int .i64 U) := by rw [(row_cell hp 4).1]; rfl
  have dz4 : w.frozen? ⟨g, 4, none⟩ = false := (row_cell hp 4).2
  have HP := Lib.hid h
  clear hp h
  go_enter Try.func20, Try.ntmps20
  go_wp2_with fail
  go_ret
  exact ⟨rfl, ⟨heap_alloc_new w _, HP.out.ok⟩, (Below.refl _ _).alloc (Nat.le_refl _) _⟩
theorem clone_nil (w : World) : Calls Try.prog 20 #[.pointer none] w fun e w' => e = .returned (.pointer none) ∧ w' = w := by
  go_enter Try.func20, Try.ntmps20
  go_wp2_with fail
  go_ret
  exact ⟨rfl, rfl⟩
theorem same_nil (w : World) : Calls Try.prog 21 #[.pointer none, .pointer none] w fun e w' => e = .returned (.bool true) ∧ w' = w := by
  go_enter Try.func21, Try.ntmps21
  go_wp2_with fail
  go_ret
  exact ⟨rfl, rfl⟩
theorem same_nil_l (g : Nat) (w : World) : Calls Try.prog 21 #[.pointer none, .pointer (some ⟨g, 0, none⟩)] w fun e w' => e = .returned (.bool false) ∧ w' = w := by
  have he : ∀ w : World, (binOp .eql 23 (.pointer none) (.pointer (some ⟨g, 0, none⟩))).run Try.prog w = .ok (.bool false) w := fun _ => rfl
  go_enter Try.func21, Try.ntmps21
  go_wp2_with fail
  go_ret
  exact ⟨rfl, rfl⟩
end Go.Proofs.Ytehbcoopggpmjaa.Bg
