/-
  Which elements and lists are the same: lists of partitions. Each statement bears its own conditions.
-/
import Derived.Test.YtchlgihanogeeaaS2
import Derived.Deep.QuietTactic
import Derived.BigQuiet
namespace Go.Proofs.Ytchlgihanogeeaa
open Go.RowKit
set_option linter.unusedVariables false
set_option linter.unusedSimpArgs false
set_option maxRecDepth 100000 in
set_option maxHeartbeats 4000000 in
theorem equalfPartition_any (v v' : Value) (xs ys : List MPartition) (w : World) (h : Row w 13 (RPartition w) v xs) (h' : Row w 13 (RPartition w) v' ys) :
    Calls Try.prog 45 #[v, v', .func (.func 46) #[] #[]] w fun e w' => e = .returned (.bool (eqB samePartition xs ys)) ∧ Below w.heap.size w w' := by
  obtain ⟨a, cap, rfl, hm⟩ := h.form
  obtain ⟨a', cap', rfl, hm'⟩ := h'.form
  obtain ⟨n, hn⟩ : ∃ n, xs.length = n := ⟨_, rfl⟩
  obtain ⟨m, hn'⟩ : ∃ m, ys.length = m := ⟨_, rfl⟩
  rw [hn] at h hm ⊢
  rw [hn'] at h' hm' ⊢
  have HN := Lib.hid hn
  have HN' := Lib.hid hn'
  have H := Lib.hid h
  have H' := Lib.hid h'
  unfold rowMax at hm hm'
  clear hn h hn' h'
  by_cases hnm : n = m
  · subst hnm
    go_enter Try.func45, Try.ntmps45
    go_wp2_with fail
    go_loopw [17] (fun v wr => ERel samePartition n xs ys w v wr) (fun v => fun _ => n - (intOf v).toNat)
    case atStart => exact ERel.start (Below.refl _ _)
    case round =>
      obtain ⟨⟨j, hj, rfl, hall, hb⟩⟩ := hrel
      have HJ := Lib.hid hj
      have HA := Lib.hid hall
      have HB := Lib.hid hb
      clear hj hall hb
      by_cases hlt : j < n
      · have hjI : (j : Int) < (n : Int) := by omega
        have HX : Hid (j < n) := hlt
        obtain ⟨hnx, b, off, x, cs, rfl, hbl, hx, hR, _, hc⟩ := H.out.at_ j hlt
        clear hnx hbl
        obtain ⟨hnx, b', off', y, cs', rfl, hbl, hy, hR', _, hc'⟩ := H'.out.at_ j hlt
        clear hnx hbl
        have HXS := Lib.hid hx
        have HYS := Lib.hid hy
        obtain ⟨qa, qb, qc, qd, qe, qf, qg, qh, qi, qj, qk, ql, qm⟩ := x
        obtain ⟨qa', qb', qc', qd', qe', qf', qg', qh', qi', qj', qk', ql', qm'⟩ := y
        replace hR : RPartition wr _ _ := hR.below HB.out
        obtain ⟨vqb, vqc, vqd, vqe, vqf, vqg, vqh, vqi, vqj, rfl, _, hqb, hqc, hqd, hqe, hqf, hqg, hqh, hqi, hqj⟩ := hR
        obtain ⟨aqb, cqb, rfl, hmqb⟩ := hqb.form
        clear hmqb
        obtain ⟨aqc, cqc, rfl, hmqc⟩ := hqc.form
        clear hmqc
        obtain ⟨aqd, cqd, rfl, hmqd⟩ := hqd.form
        clear hmqd
        obtain ⟨aqe, cqe, rfl, hmqe⟩ := hqe.form
        clear hmqe
        obtain ⟨aqf, cqf, rfl, hmqf⟩ := hqf.form
        clear hmqf
        obtain ⟨aqg, cqg, rfl, hmqg⟩ := hqg.form
        clear hmqg
        obtain ⟨aqh, cqh, rfl, hmqh⟩ := hqh.form
        clear hmqh
        obtain ⟨aqi, cqi, rfl, hmqi⟩ := hqi.form
        clear hmqi
        obtain ⟨aqj, cqj, rfl, hmqj⟩ := hqj.form
        clear hmqj
        replace hR' : RPartition wr _ _ := hR'.below HB.out
        obtain ⟨vqb', vqc', vqd', vqe', vqf', vqg', vqh', vqi', vqj', rfl, _, hqb', hqc', hqd', hqe', hqf', hqg', hqh', hqi', hqj'⟩ := hR'
        obtain ⟨aqb', cqb', rfl, hmqb'⟩ := hqb'.form
        clear hmqb'
        obtain ⟨aqc', cqc', rfl, hmqc'⟩ := hqc'.form
        clear hmqc'
        obtain ⟨aqd', cqd', rfl, hmqd'⟩ := hqd'.form
        clear hmqd'
        obtain ⟨aqe', cqe', rfl, hmqe'⟩ := hqe'.form
        clear hmqe'
        obtain ⟨aqf', cqf', rfl, hmqf'⟩ := hqf'.form
        clear hmqf'
        obtain ⟨aqg', cqg', rfl, hmqg'⟩ := hqg'.form
        clear hmqg'
        obtain ⟨aqh', cqh', rfl, hmqh'⟩ := hqh'.form
        clear hmqh'
        obtain ⟨aqi', cqi', rfl, hmqi'⟩ := hqi'.form
        clear hmqi'
        obtain ⟨aqj', cqj', rfl, hmqj'⟩ := hqj'.form
        clear hmqj'
        have d0 : wr.cell? ⟨b, off + j * 13, none⟩ = some (.string qa) := cell_later HB.out (hc 0 _ rfl)
        have d1 : wr.cell? ⟨b, off + j * 13 + 1, none⟩ = some (.slice aqb qb.length cqb) := cell_later HB.out (hc 1 _ rfl)
        have d2 : wr.cell? ⟨b, off + j * 13 + 2, none⟩ = some (.slice aqc qc.length cqc) := cell_later HB.out (hc 2 _ rfl)
        have d3 : wr.cell? ⟨b, off + j * 13 + 3, none⟩ = some (.slice aqd qd.length cqd) := cell_later HB.out (hc 3 _ rfl)
        have d4 : wr.cell? ⟨b, off + j * 13 + 4, none⟩ = some (.slice aqe qe.length cqe) := cell_later HB.out (hc 4 _ rfl)
        have d5 : wr.cell? ⟨b, off + j * 13 + 5, none⟩ = some (.slice aqf qf.length cqf) := cell_later HB.out (hc 5 _ rfl)
        have d6 : wr.cell? ⟨b, off + j * 13 + 6, none⟩ = some (.slice aqg qg.length cqg) := cell_later HB.out (hc 6 _ rfl)
        have d7 : wr.cell? ⟨b, off + j * 13 + 7, none⟩ = some (.slice aqh qh.length cqh) := cell_later HB.out (hc 7 _ rfl)
        have d8 : wr.cell? ⟨b, off + j * 13 + 8, none⟩ = some (.slice aqi qi.length cqi) := cell_later HB.out (hc 8 _ rfl)
        have d9 : wr.cell? ⟨b, off + j * 13 + 9, none⟩ = some (.slice aqj qj.length cqj) := cell_later HB.out (hc 9 _ rfl)
        have d10 : wr.cell? ⟨b, off + j * 13 + 10, none⟩ = some (.int .i64 qk) := cell_later HB.out (hc 10 _ rfl)
        have d11 : wr.cell? ⟨b, off + j * 13 + 11, none⟩ = some (.int .i64 ql) := cell_later HB.out (hc 11 _ rfl)
        have d12 : wr.cell? ⟨b, off + j * 13 + 12, none⟩ = some (.int .i64 qm) := cell_later HB.out (hc 12 _ rfl)
        have e0 : wr.cell? ⟨b', off' + j * 13, none⟩ = some (.string qa') := cell_later HB.out (hc' 0 _ rfl)
        have e1 : wr.cell? ⟨b', off' + j * 13 + 1, none⟩ = some (.slice aqb' qb'.length cqb') := cell_later HB.out (hc' 1 _ rfl)
        have e2 : wr.cell? ⟨b', off' + j * 13 + 2, none⟩ = some (.slice aqc' qc'.length cqc') := cell_later HB.out (hc' 2 _ rfl)
        have e3 : wr.cell? ⟨b', off' + j * 13 + 3, none⟩ = some (.slice aqd' qd'.length cqd') := cell_later HB.out (hc' 3 _ rfl)
        have e4 : wr.cell? ⟨b', off' + j * 13 + 4, none⟩ = some (.slice aqe' qe'.length cqe') := cell_later HB.out (hc' 4 _ rfl)
        have e5 : wr.cell? ⟨b', off' + j * 13 + 5, none⟩ = some (.slice aqf' qf'.length cqf') := cell_later HB.out (hc' 5 _ rfl)
        have e6 : wr.cell? ⟨b', off' + j * 13 + 6, none⟩ = some (.slice aqg' qg'.length cqg') := cell_later HB.out (hc' 6 _ rfl)
        have e7 : wr.cell? ⟨b', off' + j * 13 + 7, none⟩ = some (.slice aqh' qh'.length cqh') := cell_later HB.out (hc' 7 _ rfl)
        have e8 : wr.cell? ⟨b', off' + j * 13 + 8, none⟩ = some (.slice aqi' qi'.length cqi') := cell_later HB.out (hc' 8 _ rfl)
        have e9 : wr.cell? ⟨b', off' + j * 13 + 9, none⟩ = some (.slice aqj' qj'.length cqj') := cell_later HB.out (hc' 9 _ rfl)
        have e10 : wr.cell? ⟨b', off' + j * 13 + 10, none⟩ = some (.int .i64 qk') := cell_later HB.out (hc' 10 _ rfl)
        have e11 : wr.cell? ⟨b', off' + j * 13 + 11, none⟩ = some (.int .i64 ql') := cell_later HB.out (hc' 11 _ rfl)
        have e12 : wr.cell? ⟨b', off' + j * 13 + 12, none⟩ = some (.int .i64 qm') := cell_later HB.out (hc' 12 _ rfl)
        obtain ⟨t, ht⟩ : ∃ t, samePartition ⟨qa, qb, qc, qd, qe, qf, qg, qh, qi, qj, qk, ql, qm⟩ ⟨qa', qb', qc', qd', qe', qf', qg', qh', qi', qj', qk', ql', qm'⟩ = t := ⟨_, rfl⟩
        have HT := Lib.hid ht
        have LATER : ∀ j u, wr.cell? ⟨b', j, none⟩ = some u → (wr.alloc (.cells #[.string qa, .slice aqb qb.length cqb, .slice aqc qc.length cqc, .slice aqd qd.length cqd, .slice aqe qe.length cqe, .slice aqf qf.length cqf, .slice aqg qg.length cqg, .slice aqh qh.length cqh, .slice aqi qi.length cqi, .slice aqj qj.length cqj, .int .i64 qk, .int .i64 ql, .int .i64 qm] 52)).cell? ⟨b', j, none⟩ = some u := fun j u h => cell_al _ h
        replace e0 := LATER _ _ e0
        replace e1 := LATER _ _ e1
        replace e2 := LATER _ _ e2
        replace e3 := LATER _ _ e3
        replace e4 := LATER _ _ e4
        replace e5 := LATER _ _ e5
        replace e6 := LATER _ _ e6
        replace e7 := LATER _ _ e7
        replace e8 := LATER _ _ e8
        replace e9 := LATER _ _ e9
        replace e10 := LATER _ _ e10
        replace e11 := LATER _ _ e11
        replace e12 := LATER _ _ e12
        clear LATER
        have C : Hid (Calls Try.prog 46 #[.agg #[.string qa, .slice aqb qb.length cqb, .slice aqc qc.length cqc, .slice aqd qd.length cqd, .slice aqe qe.length cqe, .slice aqf qf.length cqf, .slice aqg qg.length cqg, .slice aqh qh.length cqh, .slice aqi qi.length cqi, .slice aqj qj.length cqj, .int .i64 qk, .int .i64 ql, .int .i64 qm], .agg #[.string qa', .slice aqb' qb'.length cqb', .slice aqc' qc'.length cqc', .slice aqd' qd'.length cqd', .slice aqe' qe'.length cqe', .slice aqf' qf'.length cqf', .slice aqg' qg'.length cqg', .slice aqh' qh'.length cqh', .slice aqi' qi'.length cqi', .slice aqj' qj'.length cqj', .int .i64 qk', .int .i64 ql', .int .i64 qm']] ((wr.alloc (.cells #[.string qa, .slice aqb qb.length cqb, .slice aqc qc.length cqc, .slice aqd qd.length cqd, .slice aqe qe.length cqe, .slice aqf qf.length cqf, .slice aqg qg.length cqg, .slice aqh qh.length cqh, .slice aqi qi.length cqi, .slice aqj qj.length cqj, .int .i64 qk, .int .i64 ql, .int .i64 qm] 52)).alloc (.cells #[.string qa', .slice aqb' qb'.length cqb', .slice aqc' qc'.length cqc', .slice aqd' qd'.length cqd', .slice aqe' qe'.length cqe', .slice aqf' qf'.length cqf', .slice aqg' qg'.length cqg', .slice aqh' qh'.length cqh', .slice aqi' qi'.length cqi', .slice aqj' qj'.length cqj', .int .i64 qk', .int .i64 ql', .int .i64 qm'] 52)) fun e w' => e = .returned (.bool t) ∧ Below ((wr.alloc (.cells #[.string qa, .slice aqb qb.length cqb, .slice aqc qc.length cqc, .slice aqd qd.length cqd, .slice aqe qe.length cqe, .slice aqf qf.length cqf, .slice aqg qg.length cqg, .slice aqh qh.length cqh, .slice aqi qi.length cqi, .slice aqj qj.length cqj, .int .i64 qk, .int .i64 ql, .int .i64 qm] 52)).alloc (.cells #[.string qa', .slice aqb' qb'.length cqb', .slice aqc' qc'.length cqc', .slice aqd' qd'.length cqd', .slice aqe' qe'.length cqe', .slice aqf' qf'.length cqf', .slice aqg' qg'.length cqg', .slice aqh' qh'.length cqh', .slice aqi' qi'.length cqi', .slice aqj' qj'.length cqj', .int .i64 qk', .int .i64 ql', .int .i64 qm'] 52)).heap.size ((wr.alloc (.cells #[.string qa, .slice aqb qb.length cqb, .slice aqc qc.length cqc, .slice aqd qd.length cqd, .slice aqe qe.length cqe, .slice aqf qf.length cqf, .slice aqg qg.length cqg, .slice aqh qh.length cqh, .slice aqi qi.length cqi, .slice aqj qj.length cqj, .int .i64 qk, .int .i64 ql, .int .i64 qm] 52)).alloc (.cells #[.string qa', .slice aqb' qb'.length cqb', .slice aqc' qc'.length cqc', .slice aqd' qd'.length cqd', .slice aqe' qe'.length cqe', .slice aqf' qf'.length cqf', .slice aqg' qg'.length cqg', .slice aqh' qh'.length cqh', .slice aqi' qi'.length cqi', .slice aqj' qj'.length cqj', .int .i64 qk', .int .i64 ql', .int .i64 qm'] 52)) w') := by
          unfold Hid
          have BZ : Below wr.heap.size wr ((wr.alloc (.cells #[.string qa, .slice aqb qb.length cqb, .slice aqc qc.length cqc, .slice aqd qd.length cqd, .slice aqe qe.length cqe, .slice aqf qf.length cqf, .slice aqg qg.length cqg, .slice aqh qh.length cqh, .slice aqi qi.length cqi, .slice aqj qj.length cqj, .int .i64 qk, .int .i64 ql, .int .i64 qm] 52)).alloc (.cells #[.string qa', .slice aqb' qb'.length cqb', .slice aqc' qc'.length cqc', .slice aqd' qd'.length cqd', .slice aqe' qe'.length cqe', .slice aqf' qf'.length cqf', .slice aqg' qg'.length cqg', .slice aqh' qh'.length cqh', .slice aqi' qi'.length cqi', .slice aqj' qj'.length cqj', .int .i64 qk', .int .i64 ql', .int .i64 qm'] 52)) := (((Below.refl _ _).alloc (Nat.le_refl _) _).alloc (by simp) _)
          rw [← ht]; exact samePartition_core qa qb qc qd qe qf qg qh qi qj qk ql qm (.slice aqb qb.length cqb) (.slice aqc qc.length cqc) (.slice aqd qd.length cqd) (.slice aqe qe.length cqe) (.slice aqf qf.length cqf) (.slice aqg qg.length cqg) (.slice aqh qh.length cqh) (.slice aqi qi.length cqi) (.slice aqj qj.length cqj) qa' qb' qc' qd' qe' qf' qg' qh' qi' qj' qk' ql' qm' (.slice aqb' qb'.length cqb') (.slice aqc' qc'.length cqc') (.slice aqd' qd'.length cqd') (.slice aqe' qe'.length cqe') (.slice aqf' qf'.length cqf') (.slice aqg' qg'.length cqg') (.slice aqh' qh'.length cqh') (.slice aqi' qi'.length cqi') (.slice aqj' qj'.length cqj') _ (hqb.below BZ) (hqc.below BZ) (hqd.below BZ) (hqe.below BZ) (hqf.below BZ) (hqg.below BZ) (hqh.below BZ) (hqi.below BZ) (hqj.below BZ) (hqb'.below BZ) (hqc'.below BZ) (hqd'.below BZ) (hqe'.below BZ) (hqf'.below BZ) (hqg'.below BZ) (hqh'.below BZ) (hqi'.below BZ) (hqj'.below BZ)
        have hbz : (wr.alloc (.cells #[.string qa, .slice aqb qb.length cqb, .slice aqc qc.length cqc, .slice aqd qd.length cqd, .slice aqe qe.length cqe, .slice aqf qf.length cqf, .slice aqg qg.length cqg, .slice aqh qh.length cqh, .slice aqi qi.length cqi, .slice aqj qj.length cqj, .int .i64 qk, .int .i64 ql, .int .i64 qm] 52)).heap.size = wr.heap.size + 1 := by simp
        clear hc hc' ht hlt hx hy hqb hqb' hqc hqc' hqd hqd' hqe hqe' hqf hqf' hqg hqg' hqh hqh' hqi hqi' hqj hqj'
        go_wp2_with fail
        refine C.out.mono ?_
        rintro e W1 ⟨rfl, b1⟩
        have HB1 : Hid (Below w.heap.size w W1) := ((HB.out.alloc HB.out.size _).alloc (by have := HB.out.size; simp; omega) _).trans (b1.mono (by have := HB.out.size; simp; omega))
        clear b1 C
        cases t with
        | true =>
          go_wp2_with fail
          go_roundw
          case rel =>
            have Q : ERel samePartition n xs ys w (.int .i64 ((j : Int) + 1)) W1 := ERel.next HX.out HXS.out HYS.out HT.out HA.out HB1.out
            first | exact Q | ((repeat apply Exists.intro); exact ⟨Q, rfl⟩)
          case measure => have := HX.out; simp [intOf]; omega
        | false =>
          have HF : Hid (eqB samePartition xs ys = false) := eqB_el HXS.out HYS.out HT.out
          go_wp2_with fail
          go_ret
          exact ⟨by rw [HF.out]; rfl, HB1.out⟩
      · have hjI : ¬ (j : Int) < (n : Int) := by omega
        have HF : Hid (eqB samePartition xs ys = true) := eqB_ok HN.out HN'.out HJ.out hlt HA.out
        go_wp2_with fail
        go_ret
        exact ⟨by rw [HF.out]; rfl, HB.out⟩
  · have HF : Hid (eqB samePartition xs ys = false) := eqB_len HN.out HN'.out hnm
    have hnmB : ((n : Int) == (m : Int)) = false := by rw [beq_eq_false_iff_ne]; omega
    have hnmC : ((n : Int) != (m : Int)) = true := by rw [bne_iff_ne]; omega
    go_enter Try.func45, Try.ntmps45
    go_wp2_with fail
    go_ret
    exact ⟨by rw [HF.out]; rfl, Below.refl _ _⟩
end Go.Proofs.Ytchlgihanogeeaa
