/-
  The reference's Same: rules. Each statement bears its own conditions.
-/
import Derived.Test.YtchlgihanogeeaaS3
import Derived.Deep.QuietTactic
import Derived.BigQuiet
import Derived.Deep.DeepCutAuto
import Derived.Deep.RegionHeld3
namespace Go.Proofs.Ytchlgihanogeeaa
open Go.RowKit
set_option linter.unusedVariables false
set_option linter.unusedSimpArgs false
set_option maxRecDepth 100000 in
set_option maxHeartbeats 4000000 in
theorem rsameRules_any (v v' : Value) (xs ys : List MRule) (w : World) (h : Row w 3 RRule v xs) (h' : Row w 3 RRule v' ys) :
    Calls Try.prog 43 #[v, v'] w fun e w' => e = .returned (.bool (eqB sameRule xs ys)) ∧ Below w.heap.size w w' := by
  obtain ⟨a, cap, rfl, hm⟩ := h.form
  obtain ⟨a', cap', rfl, hm'⟩ := h'.form
  obtain ⟨n, hn⟩ : ∃ n, xs.length = n := ⟨_, rfl⟩
  obtain ⟨m, hn'⟩ : ∃ m, ys.length = m := ⟨_, rfl⟩
  rw [hn] at h hm ⊢
  rw [hn'] at h' hm' ⊢
  have HN := Lib.hid hn
  have HN' := Lib.hid hn'
  have H := Lib.hid h
  have H' := Lib.hid h'
  unfold rowMax at hm hm'
  clear hn h hn' h'
  by_cases hnm : n = m
  · subst hnm
    go_enter Try.func43, Try.ntmps43
    go_wp2_with fail
    go_loopw [5] (fun v wr => ERel sameRule n xs ys w v wr) (fun v => fun _ => n - (intOf v).toNat)
    case atStart => exact ERel.start (Below.refl _ _)
    case round =>
      obtain ⟨⟨j, hj, rfl, hall, hb⟩⟩ := hrel
      have HJ := Lib.hid hj
      have HA := Lib.hid hall
      have HB := Lib.hid hb
      clear hj hall hb
      by_cases hlt : j < n
      · have hjI : (j : Int) < (n : Int) := by omega
        have HX : Hid (j < n) := hlt
        obtain ⟨hnx, b, off, x, cs, rfl, hbl, hx, hR, _, hc⟩ := H.out.at_ j hlt
        clear hnx hbl
        obtain ⟨hnx, b', off', y, cs', rfl, hbl, hy, hR', _, hc'⟩ := H'.out.at_ j hlt
        clear hnx hbl
        have HXS := Lib.hid hx
        have HYS := Lib.hid hy
        obtain ⟨qa, qb, qc⟩ := x
        obtain ⟨qa', qb', qc'⟩ := y
        obtain ⟨rfl, _⟩ := hR
        obtain ⟨rfl, _⟩ := hR'
        have d0 : wr.cell? ⟨b, off + j * 3, none⟩ = some (.int .i64 qa) := cell_later HB.out (hc 0 _ rfl)
        have d1 : wr.cell? ⟨b, off + j * 3 + 1, none⟩ = some (.int .i64 qb) := cell_later HB.out (hc 1 _ rfl)
        have d2 : wr.cell? ⟨b, off + j * 3 + 2, none⟩ = some (.int .i64 qc) := cell_later HB.out (hc 2 _ rfl)
        have e0 : wr.cell? ⟨b', off' + j * 3, none⟩ = some (.int .i64 qa') := cell_later HB.out (hc' 0 _ rfl)
        have e1 : wr.cell? ⟨b', off' + j * 3 + 1, none⟩ = some (.int .i64 qb') := cell_later HB.out (hc' 1 _ rfl)
        have e2 : wr.cell? ⟨b', off' + j * 3 + 2, none⟩ = some (.int .i64 qc') := cell_later HB.out (hc' 2 _ rfl)
        obtain ⟨t, ht⟩ : ∃ t, sameRule ⟨qa, qb, qc⟩ ⟨qa', qb', qc'⟩ = t := ⟨_, rfl⟩
        have HT := Lib.hid ht
        have RUN : ∀ W, (binOp .neq 80 (.agg #[.int .i64 qa, .int .i64 qb, .int .i64 qc]) (.agg #[.int .i64 qa', .int .i64 qb', .int .i64 qc'])).run Try.prog W = .ok (.bool (!t)) W := fun W => by rw [← ht]; exact neqRule qa qb qc qa' qb' qc' W
        clear hc hc' hx hy ht hlt
        cases t with
        | true =>
          rw [Bool.not_true] at RUN
          go_wp2_with fail
          go_quiet (fail)
          go_wp2_with fail
          go_roundw
          case rel =>
            have Q : ∀ N, ERel sameRule n xs ys w (.int .i64 ((j : Int) + 1)) (wr.drewN N) := fun N => ERel.next HX.out HXS.out HYS.out HT.out HA.out (below_drewN HB.out N)
            first | exact Q _ | ((repeat apply Exists.intro); exact ⟨Q _, rfl⟩)
          case measure => have := HX.out; simp [intOf]; omega
        | false =>
          rw [Bool.not_false] at RUN
          have HF : Hid (eqB sameRule xs ys = false) := eqB_el HXS.out HYS.out HT.out
          go_wp2_with fail
          go_quiet (fail)
          go_wp2_with fail
          go_ret
          exact ⟨by rw [HF.out]; rfl, below_drewN HB.out _⟩
      · have hjI : ¬ (j : Int) < (n : Int) := by omega
        have HF : Hid (eqB sameRule xs ys = true) := eqB_ok HN.out HN'.out HJ.out hlt HA.out
        go_wp2_with fail
        go_ret
        exact ⟨by rw [HF.out]; rfl, HB.out⟩
  · have HF : Hid (eqB sameRule xs ys = false) := eqB_len HN.out HN'.out hnm
    have hnmB : ((n : Int) == (m : Int)) = false := by rw [beq_eq_false_iff_ne]; omega
    have hnmC : ((n : Int) != (m : Int)) = true := by rw [bne_iff_ne]; omega
    go_enter Try.func43, Try.ntmps43
    go_wp2_with fail
    go_ret
    exact ⟨by rw [HF.out]; rfl, Below.refl _ _⟩
set_option maxHeartbeats 4000000 in
theorem neqBudget (qa : Int) (qb : Int) (qa' : Int) (qb' : Int) (w : World) : (binOp .neq 50 (.agg #[.int .i64 qa, .int .i64 qb]) (.agg #[.int .i64 qa', .int .i64 qb'])).run Try.prog w = .ok (.bool (!sameBudget ⟨qa, qb⟩ ⟨qa', qb'⟩)) w := by
  unfold sameBudget
  dsimp only
  go_simp
  by_cases h0 : qa = qa'
  · subst h0
    by_cases h1 : qb = qb'
    · subst h1
      simp
    · simp [h1]
  · simp [h0]
end Go.Proofs.Ytchlgihanogeeaa
