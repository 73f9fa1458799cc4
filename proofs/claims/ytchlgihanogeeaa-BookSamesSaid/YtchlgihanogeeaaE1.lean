/-
  Which elements and lists are the same: Area, Task, Lock, Sema. Each statement bears its own conditions.
-/
import Derived.Test.YtchlgihanogeeaaE0
import Derived.Deep.QuietTactic
import Derived.BigQuiet
namespace Go.Proofs.Ytchlgihanogeeaa
open Go.RowKit
set_option linter.unusedVariables false
set_option linter.unusedSimpArgs false
def sameArea (x y : MArea) : Bool := decide (x.qa = y.qa) && decide (x.qb = y.qb) && decide (x.qc = y.qc) && decide (x.qd = y.qd) && decide (x.qe = y.qe) && decide (x.qf = y.qf)
set_option maxHeartbeats 4000000 in
theorem neqArea (qa : ByteArray) (qb : Int) (qc : Int) (qd : Bool) (qe : Bool) (qf : Bool) (qa' : ByteArray) (qb' : Int) (qc' : Int) (qd' : Bool) (qe' : Bool) (qf' : Bool) (w : World) : (binOp .neq 107 (.agg #[.string qa, .int .i64 qb, .int .i64 qc, .bool qd, .bool qe, .bool qf]) (.agg #[.string qa', .int .i64 qb', .int .i64 qc', .bool qd', .bool qe', .bool qf'])).run Try.prog w = .ok (.bool (!sameArea ⟨qa, qb, qc, qd, qe, qf⟩ ⟨qa', qb', qc', qd', qe', qf'⟩)) w := by
  unfold sameArea
  dsimp only
  go_simp
  simp only [ba_inj]
  by_cases h0 : qa = qa'
  · subst h0
    by_cases h1 : qb = qb'
    · subst h1
      by_cases h2 : qc = qc'
      · subst h2
        by_cases h3 : qd = qd'
        · subst h3
          by_cases h4 : qe = qe'
          · subst h4
            by_cases h5 : qf = qf'
            · subst h5
              simp
            · simp [h5]
          · simp [h4]
        · simp [h3]
      · simp [h2]
    · simp [h1]
  · simp [h0]
set_option maxRecDepth 100000 in
set_option maxHeartbeats 4000000 in
theorem equalArea_any (v v' : Value) (xs ys : List MArea) (w : World) (h : Row w 6 RArea v xs) (h' : Row w 6 RArea v' ys) :
    Calls Try.prog 104 #[v, v'] w fun e w' => e = .returned (.bool (eqB sameArea xs ys)) ∧ Below w.heap.size w w' := by
  obtain ⟨a, cap, rfl, hm⟩ := h.form
  obtain ⟨a', cap', rfl, hm'⟩ := h'.form
  obtain ⟨n, hn⟩ : ∃ n, xs.length = n := ⟨_, rfl⟩
  obtain ⟨m, hn'⟩ : ∃ m, ys.length = m := ⟨_, rfl⟩
  rw [hn] at h hm ⊢
  rw [hn'] at h' hm' ⊢
  have HN := Lib.hid hn
  have HN' := Lib.hid hn'
  have H := Lib.hid h
  have H' := Lib.hid h'
  unfold rowMax at hm hm'
  clear hn h hn' h'
  by_cases hnm : n = m
  · subst hnm
    go_enter Try.func104, Try.ntmps104
    go_wp2_with fail
    go_loopw [13] (fun v wr => ERel sameArea n xs ys w v wr) (fun v => fun _ => n - (intOf v).toNat)
    case atStart => exact ERel.start (Below.refl _ _)
    case round =>
      obtain ⟨⟨j, hj, rfl, hall, hb⟩⟩ := hrel
      have HJ := Lib.hid hj
      have HA := Lib.hid hall
      have HB := Lib.hid hb
      clear hj hall hb
      by_cases hlt : j < n
      · have hjI : (j : Int) < (n : Int) := by omega
        have HX : Hid (j < n) := hlt
        obtain ⟨hnx, b, off, x, cs, rfl, hbl, hx, hR, _, hc⟩ := H.out.at_ j hlt
        clear hnx hbl
        obtain ⟨hnx, b', off', y, cs', rfl, hbl, hy, hR', _, hc'⟩ := H'.out.at_ j hlt
        clear hnx hbl
        have HXS := Lib.hid hx
        have HYS := Lib.hid hy
        obtain ⟨qa, qb, qc, qd, qe, qf⟩ := x
        obtain ⟨qa', qb', qc', qd', qe', qf'⟩ := y
        obtain ⟨rfl, _⟩ := hR
        obtain ⟨rfl, _⟩ := hR'
        have d0 : wr.cell? ⟨b, off + j * 6, none⟩ = some (.string qa) := cell_later HB.out (hc 0 _ rfl)
        have d1 : wr.cell? ⟨b, off + j * 6 + 1, none⟩ = some (.int .i64 qb) := cell_later HB.out (hc 1 _ rfl)
        have d2 : wr.cell? ⟨b, off + j * 6 + 2, none⟩ = some (.int .i64 qc) := cell_later HB.out (hc 2 _ rfl)
        have d3 : wr.cell? ⟨b, off + j * 6 + 3, none⟩ = some (.bool qd) := cell_later HB.out (hc 3 _ rfl)
        have d4 : wr.cell? ⟨b, off + j * 6 + 4, none⟩ = some (.bool qe) := cell_later HB.out (hc 4 _ rfl)
        have d5 : wr.cell? ⟨b, off + j * 6 + 5, none⟩ = some (.bool qf) := cell_later HB.out (hc 5 _ rfl)
        have e0 : wr.cell? ⟨b', off' + j * 6, none⟩ = some (.string qa') := cell_later HB.out (hc' 0 _ rfl)
        have e1 : wr.cell? ⟨b', off' + j * 6 + 1, none⟩ = some (.int .i64 qb') := cell_later HB.out (hc' 1 _ rfl)
        have e2 : wr.cell? ⟨b', off' + j * 6 + 2, none⟩ = some (.int .i64 qc') := cell_later HB.out (hc' 2 _ rfl)
        have e3 : wr.cell? ⟨b', off' + j * 6 + 3, none⟩ = some (.bool qd') := cell_later HB.out (hc' 3 _ rfl)
        have e4 : wr.cell? ⟨b', off' + j * 6 + 4, none⟩ = some (.bool qe') := cell_later HB.out (hc' 4 _ rfl)
        have e5 : wr.cell? ⟨b', off' + j * 6 + 5, none⟩ = some (.bool qf') := cell_later HB.out (hc' 5 _ rfl)
        obtain ⟨t, ht⟩ : ∃ t, sameArea ⟨qa, qb, qc, qd, qe, qf⟩ ⟨qa', qb', qc', qd', qe', qf'⟩ = t := ⟨_, rfl⟩
        have HT := Lib.hid ht
        have RUN : ∀ W, (binOp .neq 107 (.agg #[.string qa, .int .i64 qb, .int .i64 qc, .bool qd, .bool qe, .bool qf]) (.agg #[.string qa', .int .i64 qb', .int .i64 qc', .bool qd', .bool qe', .bool qf'])).run Try.prog W = .ok (.bool (!t)) W := fun W => by rw [← ht]; exact neqArea qa qb qc qd qe qf qa' qb' qc' qd' qe' qf' W
        clear hc hc' hx hy ht hlt
        cases t with
        | true =>
          rw [Bool.not_true] at RUN
          go_wp2_with fail
          go_quiet (fail)
          go_wp2_with fail
          go_roundw
          case rel =>
            have Q : ∀ N, ERel sameArea n xs ys w (.int .i64 ((j : Int) + 1)) (wr.drewN N) := fun N => ERel.next HX.out HXS.out HYS.out HT.out HA.out (below_drewN HB.out N)
            first | exact Q _ | ((repeat apply Exists.intro); exact ⟨Q _, rfl⟩)
          case measure => have := HX.out; simp [intOf]; omega
        | false =>
          rw [Bool.not_false] at RUN
          have HF : Hid (eqB sameArea xs ys = false) := eqB_el HXS.out HYS.out HT.out
          go_wp2_with fail
          go_quiet (fail)
          go_wp2_with fail
          go_ret
          exact ⟨by rw [HF.out]; rfl, below_drewN HB.out _⟩
      · have hjI : ¬ (j : Int) < (n : Int) := by omega
        have HF : Hid (eqB sameArea xs ys = true) := eqB_ok HN.out HN'.out HJ.out hlt HA.out
        go_wp2_with fail
        go_ret
        exact ⟨by rw [HF.out]; rfl, HB.out⟩
  · have HF : Hid (eqB sameArea xs ys = false) := eqB_len HN.out HN'.out hnm
    have hnmB : ((n : Int) == (m : Int)) = false := by rw [beq_eq_false_iff_ne]; omega
    have hnmC : ((n : Int) != (m : Int)) = true := by rw [bne_iff_ne]; omega
    go_enter Try.func104, Try.ntmps104
    go_wp2_with fail
    go_ret
    exact ⟨by rw [HF.out]; rfl, Below.refl _ _⟩
def sameTask (x y : MTask) : Bool := decide (x.qa = y.qa) && decide (x.qb = y.qb) && decide (x.qc = y.qc) && decide (x.qd = y.qd) && decide (x.qe = y.qe) && decide (x.qf = y.qf) && decide (x.qg = y.qg) && decide (x.qh = y.qh)
set_option maxHeartbeats 4000000 in
theorem neqTask (qa : ByteArray) (qb : Int) (qc : Int) (qd : Int) (qe : Int) (qf : Int) (qg : Int) (qh : Int) (qa' : ByteArray) (qb' : Int) (qc' : Int) (qd' : Int) (qe' : Int) (qf' : Int) (qg' : Int) (qh' : Int) (w : World) : (binOp .neq 109 (.agg #[.string qa, .int .i64 qb, .int .i64 qc, .int .i64 qd, .int .i64 qe, .int .i64 qf, .int .i64 qg, .int .i64 qh]) (.agg #[.string qa', .int .i64 qb', .int .i64 qc', .int .i64 qd', .int .i64 qe', .int .i64 qf', .int .i64 qg', .int .i64 qh'])).run Try.prog w = .ok (.bool (!sameTask ⟨qa, qb, qc, qd, qe, qf, qg, qh⟩ ⟨qa', qb', qc', qd', qe', qf', qg', qh'⟩)) w := by
  unfold sameTask
  dsimp only
  go_simp
  simp only [ba_inj]
  by_cases h0 : qa = qa'
  · subst h0
    by_cases h1 : qb = qb'
    · subst h1
      by_cases h2 : qc = qc'
      · subst h2
        by_cases h3 : qd = qd'
        · subst h3
          by_cases h4 : qe = qe'
          · subst h4
            by_cases h5 : qf = qf'
            · subst h5
              by_cases h6 : qg = qg'
              · subst h6
                by_cases h7 : qh = qh'
                · subst h7
                  simp
                · simp [h7]
              · simp [h6]
            · simp [h5]
          · simp [h4]
        · simp [h3]
      · simp [h2]
    · simp [h1]
  · simp [h0]
set_option maxRecDepth 100000 in
set_option maxHeartbeats 4000000 in
theorem equalTask_any (v v' : Value) (xs ys : List MTask) (w : World) (h : Row w 8 RTask v xs) (h' : Row w 8 RTask v' ys) :
    Calls Try.prog 105 #[v, v'] w fun e w' => e = .returned (.bool (eqB sameTask xs ys)) ∧ Below w.heap.size w w' := by
  obtain ⟨a, cap, rfl, hm⟩ := h.form
  obtain ⟨a', cap', rfl, hm'⟩ := h'.form
  obtain ⟨n, hn⟩ : ∃ n, xs.length = n := ⟨_, rfl⟩
  obtain ⟨m, hn'⟩ : ∃ m, ys.length = m := ⟨_, rfl⟩
  rw [hn] at h hm ⊢
  rw [hn'] at h' hm' ⊢
  have HN := Lib.hid hn
  have HN' := Lib.hid hn'
  have H := Lib.hid h
  have H' := Lib.hid h'
  unfold rowMax at hm hm'
  clear hn h hn' h'
  by_cases hnm : n = m
  · subst hnm
    go_enter Try.func105, Try.ntmps105
    go_wp2_with fail
    go_loopw [13] (fun v wr => ERel sameTask n xs ys w v wr) (fun v => fun _ => n - (intOf v).toNat)
    case atStart => exact ERel.start (Below.refl _ _)
    case round =>
      obtain ⟨⟨j, hj, rfl, hall, hb⟩⟩ := hrel
      have HJ := Lib.hid hj
      have HA := Lib.hid hall
      have HB := Lib.hid hb
      clear hj hall hb
      by_cases hlt : j < n
      · have hjI : (j : Int) < (n : Int) := by omega
        have HX : Hid (j < n) := hlt
        obtain ⟨hnx, b, off, x, cs, rfl, hbl, hx, hR, _, hc⟩ := H.out.at_ j hlt
        clear hnx hbl
        obtain ⟨hnx, b', off', y, cs', rfl, hbl, hy, hR', _, hc'⟩ := H'.out.at_ j hlt
        clear hnx hbl
        have HXS := Lib.hid hx
        have HYS := Lib.hid hy
        obtain ⟨qa, qb, qc, qd, qe, qf, qg, qh⟩ := x
        obtain ⟨qa', qb', qc', qd', qe', qf', qg', qh'⟩ := y
        obtain ⟨rfl, _⟩ := hR
        obtain ⟨rfl, _⟩ := hR'
        have d0 : wr.cell? ⟨b, off + j * 8, none⟩ = some (.string qa) := cell_later HB.out (hc 0 _ rfl)
        have d1 : wr.cell? ⟨b, off + j * 8 + 1, none⟩ = some (.int .i64 qb) := cell_later HB.out (hc 1 _ rfl)
        have d2 : wr.cell? ⟨b, off + j * 8 + 2, none⟩ = some (.int .i64 qc) := cell_later HB.out (hc 2 _ rfl)
        have d3 : wr.cell? ⟨b, off + j * 8 + 3, none⟩ = some (.int .i64 qd) := cell_later HB.out (hc 3 _ rfl)
        have d4 : wr.cell? ⟨b, off + j * 8 + 4, none⟩ = some (.int .i64 qe) := cell_later HB.out (hc 4 _ rfl)
        have d5 : wr.cell? ⟨b, off + j * 8 + 5, none⟩ = some (.int .i64 qf) := cell_later HB.out (hc 5 _ rfl)
        have d6 : wr.cell? ⟨b, off + j * 8 + 6, none⟩ = some (.int .i64 qg) := cell_later HB.out (hc 6 _ rfl)
        have d7 : wr.cell? ⟨b, off + j * 8 + 7, none⟩ = some (.int .i64 qh) := cell_later HB.out (hc 7 _ rfl)
        have e0 : wr.cell? ⟨b', off' + j * 8, none⟩ = some (.string qa') := cell_later HB.out (hc' 0 _ rfl)
        have e1 : wr.cell? ⟨b', off' + j * 8 + 1, none⟩ = some (.int .i64 qb') := cell_later HB.out (hc' 1 _ rfl)
        have e2 : wr.cell? ⟨b', off' + j * 8 + 2, none⟩ = some (.int .i64 qc') := cell_later HB.out (hc' 2 _ rfl)
        have e3 : wr.cell? ⟨b', off' + j * 8 + 3, none⟩ = some (.int .i64 qd') := cell_later HB.out (hc' 3 _ rfl)
        have e4 : wr.cell? ⟨b', off' + j * 8 + 4, none⟩ = some (.int .i64 qe') := cell_later HB.out (hc' 4 _ rfl)
        have e5 : wr.cell? ⟨b', off' + j * 8 + 5, none⟩ = some (.int .i64 qf') := cell_later HB.out (hc' 5 _ rfl)
        have e6 : wr.cell? ⟨b', off' + j * 8 + 6, none⟩ = some (.int .i64 qg') := cell_later HB.out (hc' 6 _ rfl)
        have e7 : wr.cell? ⟨b', off' + j * 8 + 7, none⟩ = some (.int .i64 qh') := cell_later HB.out (hc' 7 _ rfl)
        obtain ⟨t, ht⟩ : ∃ t, sameTask ⟨qa, qb, qc, qd, qe, qf, qg, qh⟩ ⟨qa', qb', qc', qd', qe', qf', qg', qh'⟩ = t := ⟨_, rfl⟩
        have HT := Lib.hid ht
        have RUN : ∀ W, (binOp .neq 109 (.agg #[.string qa, .int .i64 qb, .int .i64 qc, .int .i64 qd, .int .i64 qe, .int .i64 qf, .int .i64 qg, .int .i64 qh]) (.agg #[.string qa', .int .i64 qb', .int .i64 qc', .int .i64 qd', .int .i64 qe', .int .i64 qf', .int .i64 qg', .int .i64 qh'])).run Try.prog W = .ok (.bool (!t)) W := fun W => by rw [← ht]; exact neqTask qa qb qc qd qe qf qg qh qa' qb' qc' qd' qe' qf' qg' qh' W
        clear hc hc' hx hy ht hlt
        cases t with
        | true =>
          rw [Bool.not_true] at RUN
          go_wp2_with fail
          go_quiet (fail)
          go_wp2_with fail
          go_roundw
          case rel =>
            have Q : ∀ N, ERel sameTask n xs ys w (.int .i64 ((j : Int) + 1)) (wr.drewN N) := fun N => ERel.next HX.out HXS.out HYS.out HT.out HA.out (below_drewN HB.out N)
            first | exact Q _ | ((repeat apply Exists.intro); exact ⟨Q _, rfl⟩)
          case measure => have := HX.out; simp [intOf]; omega
        | false =>
          rw [Bool.not_false] at RUN
          have HF : Hid (eqB sameTask xs ys = false) := eqB_el HXS.out HYS.out HT.out
          go_wp2_with fail
          go_quiet (fail)
          go_wp2_with fail
          go_ret
          exact ⟨by rw [HF.out]; rfl, below_drewN HB.out _⟩
      · have hjI : ¬ (j : Int) < (n : Int) := by omega
        have HF : Hid (eqB sameTask xs ys = true) := eqB_ok HN.out HN'.out HJ.out hlt HA.out
        go_wp2_with fail
        go_ret
        exact ⟨by rw [HF.out]; rfl, HB.out⟩
  · have HF : Hid (eqB sameTask xs ys = false) := eqB_len HN.out HN'.out hnm
    have hnmB : ((n : Int) == (m : Int)) = false := by rw [beq_eq_false_iff_ne]; omega
    have hnmC : ((n : Int) != (m : Int)) = true := by rw [bne_iff_ne]; omega
    go_enter Try.func105, Try.ntmps105
    go_wp2_with fail
    go_ret
    exact ⟨by rw [HF.out]; rfl, Below.refl _ _⟩
def sameLock (x y : MLock) : Bool := decide (x.qa = y.qa) && decide (x.qb = y.qb)
set_option maxHeartbeats 4000000 in
theorem neqLock (qa : ByteArray) (qb : Int) (qa' : ByteArray) (qb' : Int) (w : World) : (binOp .neq 111 (.agg #[.string qa, .int .i64 qb]) (.agg #[.string qa', .int .i64 qb'])).run Try.prog w = .ok (.bool (!sameLock ⟨qa, qb⟩ ⟨qa', qb'⟩)) w := by
  unfold sameLock
  dsimp only
  go_simp
  simp only [ba_inj]
  by_cases h0 : qa = qa'
  · subst h0
    by_cases h1 : qb = qb'
    · subst h1
      simp
    · simp [h1]
  · simp [h0]
set_option maxRecDepth 100000 in
set_option maxHeartbeats 4000000 in
theorem equalLock_any (v v' : Value) (xs ys : List MLock) (w : World) (h : Row w 2 RLock v xs) (h' : Row w 2 RLock v' ys) :
    Calls Try.prog 106 #[v, v'] w fun e w' => e = .returned (.bool (eqB sameLock xs ys)) ∧ Below w.heap.size w w' := by
  obtain ⟨a, cap, rfl, hm⟩ := h.form
  obtain ⟨a', cap', rfl, hm'⟩ := h'.form
  obtain ⟨n, hn⟩ : ∃ n, xs.length = n := ⟨_, rfl⟩
  obtain ⟨m, hn'⟩ : ∃ m, ys.length = m := ⟨_, rfl⟩
  rw [hn] at h hm ⊢
  rw [hn'] at h' hm' ⊢
  have HN := Lib.hid hn
  have HN' := Lib.hid hn'
  have H := Lib.hid h
  have H' := Lib.hid h'
  unfold rowMax at hm hm'
  clear hn h hn' h'
  by_cases hnm : n = m
  · subst hnm
    go_enter Try.func106, Try.ntmps106
    go_wp2_with fail
    go_loopw [13] (fun v wr => ERel sameLock n xs ys w v wr) (fun v => fun _ => n - (intOf v).toNat)
    case atStart => exact ERel.start (Below.refl _ _)
    case round =>
      obtain ⟨⟨j, hj, rfl, hall, hb⟩⟩ := hrel
      have HJ := Lib.hid hj
      have HA := Lib.hid hall
      have HB := Lib.hid hb
      clear hj hall hb
      by_cases hlt : j < n
      · have hjI : (j : Int) < (n : Int) := by omega
        have HX : Hid (j < n) := hlt
        obtain ⟨hnx, b, off, x, cs, rfl, hbl, hx, hR, _, hc⟩ := H.out.at_ j hlt
        clear hnx hbl
        obtain ⟨hnx, b', off', y, cs', rfl, hbl, hy, hR', _, hc'⟩ := H'.out.at_ j hlt
        clear hnx hbl
        have HXS := Lib.hid hx
        have HYS := Lib.hid hy
        obtain ⟨qa, qb⟩ := x
        obtain ⟨qa', qb'⟩ := y
        obtain ⟨rfl, _⟩ := hR
        obtain ⟨rfl, _⟩ := hR'
        have d0 : wr.cell? ⟨b, off + j * 2, none⟩ = some (.string qa) := cell_later HB.out (hc 0 _ rfl)
        have d1 : wr.cell? ⟨b, off + j * 2 + 1, none⟩ = some (.int .i64 qb) := cell_later HB.out (hc 1 _ rfl)
        have e0 : wr.cell? ⟨b', off' + j * 2, none⟩ = some (.string qa') := cell_later HB.out (hc' 0 _ rfl)
        have e1 : wr.cell? ⟨b', off' + j * 2 + 1, none⟩ = some (.int .i64 qb') := cell_later HB.out (hc' 1 _ rfl)
        obtain ⟨t, ht⟩ : ∃ t, sameLock ⟨qa, qb⟩ ⟨qa', qb'⟩ = t := ⟨_, rfl⟩
        have HT := Lib.hid ht
        have RUN : ∀ W, (binOp .neq 111 (.agg #[.string qa, .int .i64 qb]) (.agg #[.string qa', .int .i64 qb'])).run Try.prog W = .ok (.bool (!t)) W := fun W => by rw [← ht]; exact neqLock qa qb qa' qb' W
        clear hc hc' hx hy ht hlt
        cases t with
        | true =>
          rw [Bool.not_true] at RUN
          go_wp2_with fail
          go_quiet (fail)
          go_wp2_with fail
          go_roundw
          case rel =>
            have Q : ∀ N, ERel sameLock n xs ys w (.int .i64 ((j : Int) + 1)) (wr.drewN N) := fun N => ERel.next HX.out HXS.out HYS.out HT.out HA.out (below_drewN HB.out N)
            first | exact Q _ | ((repeat apply Exists.intro); exact ⟨Q _, rfl⟩)
          case measure => have := HX.out; simp [intOf]; omega
        | false =>
          rw [Bool.not_false] at RUN
          have HF : Hid (eqB sameLock xs ys = false) := eqB_el HXS.out HYS.out HT.out
          go_wp2_with fail
          go_quiet (fail)
          go_wp2_with fail
          go_ret
          exact ⟨by rw [HF.out]; rfl, below_drewN HB.out _⟩
      · have hjI : ¬ (j : Int) < (n : Int) := by omega
        have HF : Hid (eqB sameLock xs ys = true) := eqB_ok HN.out HN'.out HJ.out hlt HA.out
        go_wp2_with fail
        go_ret
        exact ⟨by rw [HF.out]; rfl, HB.out⟩
  · have HF : Hid (eqB sameLock xs ys = false) := eqB_len HN.out HN'.out hnm
    have hnmB : ((n : Int) == (m : Int)) = false := by rw [beq_eq_false_iff_ne]; omega
    have hnmC : ((n : Int) != (m : Int)) = true := by rw [bne_iff_ne]; omega
    go_enter Try.func106, Try.ntmps106
    go_wp2_with fail
    go_ret
    exact ⟨by rw [HF.out]; rfl, Below.refl _ _⟩
def sameSema (x y : MSema) : Bool := decide (x.qa = y.qa) && decide (x.qb = y.qb) && decide (x.qc = y.qc) && decide (x.qd = y.qd)
set_option maxHeartbeats 4000000 in
theorem neqSema (qa : ByteArray) (qb : Int) (qc : Int) (qd : Bool) (qa' : ByteArray) (qb' : Int) (qc' : Int) (qd' : Bool) (w : World) : (binOp .neq 113 (.agg #[.string qa, .int .i64 qb, .int .i64 qc, .bool qd]) (.agg #[.string qa', .int .i64 qb', .int .i64 qc', .bool qd'])).run Try.prog w = .ok (.bool (!sameSema ⟨qa, qb, qc, qd⟩ ⟨qa', qb', qc', qd'⟩)) w := by
  unfold sameSema
  dsimp only
  go_simp
  simp only [ba_inj]
  by_cases h0 : qa = qa'
  · subst h0
    by_cases h1 : qb = qb'
    · subst h1
      by_cases h2 : qc = qc'
      · subst h2
        by_cases h3 : qd = qd'
        · subst h3
          simp
        · simp [h3]
      · simp [h2]
    · simp [h1]
  · simp [h0]
set_option maxRecDepth 100000 in
set_option maxHeartbeats 4000000 in
theorem equalSema_any (v v' : Value) (xs ys : List MSema) (w : World) (h : Row w 4 RSema v xs) (h' : Row w 4 RSema v' ys) :
    Calls Try.prog 107 #[v, v'] w fun e w' => e = .returned (.bool (eqB sameSema xs ys)) ∧ Below w.heap.size w w' := by
  obtain ⟨a, cap, rfl, hm⟩ := h.form
  obtain ⟨a', cap', rfl, hm'⟩ := h'.form
  obtain ⟨n, hn⟩ : ∃ n, xs.length = n := ⟨_, rfl⟩
  obtain ⟨m, hn'⟩ : ∃ m, ys.length = m := ⟨_, rfl⟩
  rw [hn] at h hm ⊢
  rw [hn'] at h' hm' ⊢
  have HN := Lib.hid hn
  have HN' := Lib.hid hn'
  have H := Lib.hid h
  have H' := Lib.hid h'
  unfold rowMax at hm hm'
  clear hn h hn' h'
  by_cases hnm : n = m
  · subst hnm
    go_enter Try.func107, Try.ntmps107
    go_wp2_with fail
    go_loopw [13] (fun v wr => ERel sameSema n xs ys w v wr) (fun v => fun _ => n - (intOf v).toNat)
    case atStart => exact ERel.start (Below.refl _ _)
    case round =>
      obtain ⟨⟨j, hj, rfl, hall, hb⟩⟩ := hrel
      have HJ := Lib.hid hj
      have HA := Lib.hid hall
      have HB := Lib.hid hb
      clear hj hall hb
      by_cases hlt : j < n
      · have hjI : (j : Int) < (n : Int) := by omega
        have HX : Hid (j < n) := hlt
        obtain ⟨hnx, b, off, x, cs, rfl, hbl, hx, hR, _, hc⟩ := H.out.at_ j hlt
        clear hnx hbl
        obtain ⟨hnx, b', off', y, cs', rfl, hbl, hy, hR', _, hc'⟩ := H'.out.at_ j hlt
        clear hnx hbl
        have HXS := Lib.hid hx
        have HYS := Lib.hid hy
        obtain ⟨qa, qb, qc, qd⟩ := x
        obtain ⟨qa', qb', qc', qd'⟩ := y
        obtain ⟨rfl, _⟩ := hR
        obtain ⟨rfl, _⟩ := hR'
        have d0 : wr.cell? ⟨b, off + j * 4, none⟩ = some (.string qa) := cell_later HB.out (hc 0 _ rfl)
        have d1 : wr.cell? ⟨b, off + j * 4 + 1, none⟩ = some (.int .i64 qb) := cell_later HB.out (hc 1 _ rfl)
        have d2 : wr.cell? ⟨b, off + j * 4 + 2, none⟩ = some (.int .i64 qc) := cell_later HB.out (hc 2 _ rfl)
        have d3 : wr.cell? ⟨b, off + j * 4 + 3, none⟩ = some (.bool qd) := cell_later HB.out (hc 3 _ rfl)
        have e0 : wr.cell? ⟨b', off' + j * 4, none⟩ = some (.string qa') := cell_later HB.out (hc' 0 _ rfl)
        have e1 : wr.cell? ⟨b', off' + j * 4 + 1, none⟩ = some (.int .i64 qb') := cell_later HB.out (hc' 1 _ rfl)
        have e2 : wr.cell? ⟨b', off' + j * 4 + 2, none⟩ = some (.int .i64 qc') := cell_later HB.out (hc' 2 _ rfl)
        have e3 : wr.cell? ⟨b', off' + j * 4 + 3, none⟩ = some (.bool qd') := cell_later HB.out (hc' 3 _ rfl)
        obtain ⟨t, ht⟩ : ∃ t, sameSema ⟨qa, qb, qc, qd⟩ ⟨qa', qb', qc', qd'⟩ = t := ⟨_, rfl⟩
        have HT := Lib.hid ht
        have RUN : ∀ W, (binOp .neq 113 (.agg #[.string qa, .int .i64 qb, .int .i64 qc, .bool qd]) (.agg #[.string qa', .int .i64 qb', .int .i64 qc', .bool qd'])).run Try.prog W = .ok (.bool (!t)) W := fun W => by rw [← ht]; exact neqSema qa qb qc qd qa' qb' qc' qd' W
        clear hc hc' hx hy ht hlt
        cases t with
        | true =>
          rw [Bool.not_true] at RUN
          go_wp2_with fail
          go_quiet (fail)
          go_wp2_with fail
          go_roundw
          case rel =>
            have Q : ∀ N, ERel sameSema n xs ys w (.int .i64 ((j : Int) + 1)) (wr.drewN N) := fun N => ERel.next HX.out HXS.out HYS.out HT.out HA.out (below_drewN HB.out N)
            first | exact Q _ | ((repeat apply Exists.intro); exact ⟨Q _, rfl⟩)
          case measure => have := HX.out; simp [intOf]; omega
        | false =>
          rw [Bool.not_false] at RUN
          have HF : Hid (eqB sameSema xs ys = false) := eqB_el HXS.out HYS.out HT.out
          go_wp2_with fail
          go_quiet (fail)
          go_wp2_with fail
          go_ret
          exact ⟨by rw [HF.out]; rfl, below_drewN HB.out _⟩
      · have hjI : ¬ (j : Int) < (n : Int) := by omega
        have HF : Hid (eqB sameSema xs ys = true) := eqB_ok HN.out HN'.out HJ.out hlt HA.out
        go_wp2_with fail
        go_ret
        exact ⟨by rw [HF.out]; rfl, HB.out⟩
  · have HF : Hid (eqB sameSema xs ys = false) := eqB_len HN.out HN'.out hnm
    have hnmB : ((n : Int) == (m : Int)) = false := by rw [beq_eq_false_iff_ne]; omega
    have hnmC : ((n : Int) != (m : Int)) = true := by rw [bne_iff_ne]; omega
    go_enter Try.func107, Try.ntmps107
    go_wp2_with fail
    go_ret
    exact ⟨by rw [HF.out]; rfl, Below.refl _ _⟩
end Go.Proofs.Ytchlgihanogeeaa
