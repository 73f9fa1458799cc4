/-
  What a server does. Each statement bears its own conditions.
-/
import Derived.Test.YtehbcoopggpmjaaBgM
namespace Go.Proofs.Ytehbcoopggpmjaa.Bg
open Go.RowKit Go.Proofs.Ytehbcoopggpmjaa.F 
set_option linter.unusedVariables false
set_option linter.unusedSimpArgs false
set_option maxRecDepth 100000 in
set_option maxHeartbeats 4000000 in
theorem left_any (g : Nat) (s : Sv) (t : Int) (w : World) (h : SV w g s) : Calls Try.prog 12 #[.pointer (some ⟨g, 0, none⟩), .int .i64 t] w fun e w' => e = .returned (.int .i64 (leftV s t)) ∧ ∃ m, w' = w.drewN m := by
  have CH : Hid (∀ n, Calls Try.prog 23 #[.pointer (some ⟨g, 0, none⟩), .int .i64 t] (w.drewN n) fun e w' => e = .returned (.bool (decide (hasP s t))) ∧ w' = w.drewN n) := fun n => has_any g s t _ (h.drewN n)
  by_cases ht : hasP s t
  rotate_left
  · rw [decide_eq_false ht] at CH
    rw [show leftV s t = 0 from if_pos ht]
    have CW : Hid True := trivial
    clear h ht
    go_enter Try.func12, Try.ntmps12
    go_wp2_with fail
    go_quiet (refine Calls.quiet_of_same (CH.out _))
    go_wp2_with fail
    go_ret
    exact ⟨rfl, _, rfl⟩
  rw [decide_eq_true ht] at CH
  have CW : Hid (∀ W, SV W g s → Calls Try.prog 24 #[.pointer (some ⟨g, 0, none⟩), .int .i64 t] W fun e w' => e = .returned (.int .i64 (whV s t)) ∧ ∃ m, w' = W.drewN m) := fun W hW => which_any g s t W hW ht
  have SV0 := Lib.hid h
  have CN : Hid (∀ W, SV W g s → Calls Try.prog 14 #[.pointer (some ⟨g, 0, none⟩), .int .i64 t] W fun e w' => e = .returned (.int .i64 (nextV s t)) ∧ ∃ m, w' = W.drewN m) := fun W hW => next_any g s t W hW
  obtain ⟨n1, n2, n3⟩ := next_facts h.ok ht
  have LVE : Hid (leftV s t = if whV s t < s.last then 0 else min (if whV s t = s.last then s.size - s.used else s.size) (nextV s t - t)) := by unfold Hid leftV; rw [if_neg (fun h => h ht)]
  obtain ⟨q, hq⟩ : ∃ q, whV s t = q := ⟨_, rfl⟩
  obtain ⟨x, hx⟩ : ∃ x, nextV s t = x := ⟨_, rfl⟩
  rw [hq] at CW LVE
  rw [hx] at CN LVE n2 n3
  have ok := h.ok
  obtain ⟨Z, P, F, K, U⟩ := s
  have hp := h.hp
  simp only at n3
  have h4 := ok.s1
  have h5 := ok.sp
  have h6 := ok.pm
  have h7 := ok.u0
  have h8 := ok.us
  have h9 := ht.2
  have h10 := ht.1
  have h11 := ok.f0
  simp only at h4 h5 h6 h7 h8 h10 h11
  have v1 : IntKind.i64.wrap (Z - U) = Z - U := by rw [IntKind.wrap_i64]; omega
  have v2 : IntKind.i64.wrap (x - t) = x - t := by rw [IntKind.wrap_i64]; omega
  have d0 : w.cell? ⟨g, 0, none⟩ = some (.int .i64 Z) := by rw [(row_cell hp 0).1]; rfl
  have d1 : w.cell? ⟨g, 1, none⟩ = some (.int .i64 P) := by rw [(row_cell hp 1).1]; rfl
  have d2 : w.cell? ⟨g, 2, none⟩ = some (.int .i64 F) := by rw [(row_cell hp 2).1]; rfl
  have d3 : w.cell? ⟨g, 3, none⟩ = some (.int .i64 K) := by rw [(row_cell hp 3).1]; rfl
  have d4 : w.cell? ⟨g, 4, none⟩ = some (.int .i64 U) := by rw [(row_cell hp 4).1]; rfl
  simp only at LVE
  clear h hp ht ok hq hx n1 n2 n3 h4 h5 h6 h7 h8 h9 h10 h11
  by_cases hl : q < K
  · have g1 : decide (q < K) = true := by simpa using hl
    rw [if_pos hl] at LVE
    clear hl
    go_enter Try.func12, Try.ntmps12
    go_wp2_with fail
    go_quiet (first
      | (refine Calls.quiet_of_same (CH.out _))
      | (refine Calls.quiet_of (CW.out _ (SV0.out.drewN _))))
    go_wp2_with fail
    go_ret
    exact ⟨by rw [LVE.out]; rfl, _, rfl⟩
  have g1 : decide (q < K) = false := by simpa using hl
  rw [if_neg hl] at LVE
  by_cases he : q = K
  · subst he
    rw [if_pos rfl] at LVE
    clear hl
    go_enter Try.func12, Try.ntmps12
    go_wp2_with fail
    go_quiet (first
      | (refine Calls.quiet_of_same (CH.out _))
      | (refine Calls.quiet_of (CW.out _ (SV0.out.drewN _))))
    go_upto_region 4 with fail
    obtain ⟨W1, hW1⟩ : ∃ W, w.drewN nq = W := ⟨_, rfl⟩
    have S1 : Hid (SV W1 g ⟨Z, P, F, q, U⟩) := by rw [← hW1]; exact SV0.out.drewN _
    have HW1 : Hid (∃ m, W1 = w.drewN m) := ⟨_, hW1.symm⟩
    rw [hW1]
    clear hW1 d0 d1 d2 d3 d4 nq
    have hp1 := S1.out.hp
    have e0 : W1.cell? ⟨g, 0, none⟩ = some (.int .i64 Z) := by rw [(row_cell hp1 0).1]; rfl
    have e1 : W1.cell? ⟨g, 1, none⟩ = some (.int .i64 P) := by rw [(row_cell hp1 1).1]; rfl
    have e2 : W1.cell? ⟨g, 2, none⟩ = some (.int .i64 F) := by rw [(row_cell hp1 2).1]; rfl
    have e3 : W1.cell? ⟨g, 3, none⟩ = some (.int .i64 q) := by rw [(row_cell hp1 3).1]; rfl
    have e4 : W1.cell? ⟨g, 4, none⟩ = some (.int .i64 U) := by rw [(row_cell hp1 4).1]; rfl
    clear hp1
    go_quiet (refine Calls.quiet_of (CW.out _ (S1.out.drewN _)))
    go_wp2_with fail
    refine (CN.out _ (S1.out.drewN _)).mono ?_
    rintro e w1 ⟨rfl, m, hm⟩
    rw [World.drewN_drewN] at hm
    subst hm
    go_wp2_with fail
    go_ret
    obtain ⟨m2, hm2⟩ := HW1.out
    exact ⟨by rw [LVE.out]; rfl, _, by rw [hm2, World.drewN_drewN]⟩
  · have g2 : (q == K) = false := by simpa using he
    rw [if_neg he] at LVE
    clear hl he
    go_enter Try.func12, Try.ntmps12
    go_wp2_with fail
    go_quiet (first
      | (refine Calls.quiet_of_same (CH.out _))
      | (refine Calls.quiet_of (CW.out _ (SV0.out.drewN _))))
    go_upto_region 4 with fail
    obtain ⟨W1, hW1⟩ : ∃ W, w.drewN nq = W := ⟨_, rfl⟩
    have S1 : Hid (SV W1 g ⟨Z, P, F, K, U⟩) := by rw [← hW1]; exact SV0.out.drewN _
    have HW1 : Hid (∃ m, W1 = w.drewN m) := ⟨_, hW1.symm⟩
    rw [hW1]
    clear hW1 d0 d1 d2 d3 d4 nq
    have hp1 := S1.out.hp
    have e0 : W1.cell? ⟨g, 0, none⟩ = some (.int .i64 Z) := by rw [(row_cell hp1 0).1]; rfl
    have e1 : W1.cell? ⟨g, 1, none⟩ = some (.int .i64 P) := by rw [(row_cell hp1 1).1]; rfl
    have e2 : W1.cell? ⟨g, 2, none⟩ = some (.int .i64 F) := by rw [(row_cell hp1 2).1]; rfl
    have e3 : W1.cell? ⟨g, 3, none⟩ = some (.int .i64 K) := by rw [(row_cell hp1 3).1]; rfl
    have e4 : W1.cell? ⟨g, 4, none⟩ = some (.int .i64 U) := by rw [(row_cell hp1 4).1]; rfl
    clear hp1
    go_quiet (refine Calls.quiet_of (CW.out _ (S1.out.drewN _)))
    go_wp2_with fail
    refine (CN.out _ (S1.out.drewN _)).mono ?_
    rintro e w1 ⟨rfl, m, hm⟩
    rw [World.drewN_drewN] at hm
    subst hm
    go_wp2_with fail
    go_ret
    obtain ⟨m2, hm2⟩ := HW1.out
    exact ⟨by rw [LVE.out]; rfl, _, by rw [hm2, World.drewN_drewN]⟩
set_option maxRecDepth 100000 in
set_option maxHeartbeats 4000000 in
theorem left_nil (t : Int) (w : World) : Calls Try.prog 12 #[.pointer none, .int .i64 t] w fun e w' => e = .returned (.int .i64 0) ∧ ∃ m, w' = w.drewN m := by
  have CH : Hid (∀ n, Calls Try.prog 23 #[.pointer none, .int .i64 t] (w.drewN n) fun e w' => e = .returned (.bool false) ∧ w' = w.drewN n) := fun n => has_nil t _
  go_enter Try.func12, Try.ntmps12
  go_wp2_with fail
  go_quiet (refine Calls.quiet_of_same (CH.out _))
  go_wp2_with fail
  go_ret
  exact ⟨rfl, _, rfl⟩
end Go.Proofs.Ytehbcoopggpmjaa.Bg
