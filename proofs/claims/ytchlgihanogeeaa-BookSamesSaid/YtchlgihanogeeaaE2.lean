/-
  Which elements and lists are the same: Event, Board, Buffer, Port. Each statement bears its own conditions.
-/
import Derived.Test.YtchlgihanogeeaaE0
import Derived.Deep.QuietTactic
import Derived.BigQuiet
namespace Go.Proofs.Ytchlgihanogeeaa
open Go.RowKit
set_option linter.unusedVariables false
set_option linter.unusedSimpArgs false
def sameEvent (x y : MEvent) : Bool := decide (x.qa = y.qa)
set_option maxHeartbeats 4000000 in
theorem neqEvent (qa : ByteArray) (qa' : ByteArray) (w : World) : (binOp .neq 115 (.agg #[.string qa]) (.agg #[.string qa'])).run Try.prog w = .ok (.bool (!sameEvent ⟨qa⟩ ⟨qa'⟩)) w := by
  unfold sameEvent
  dsimp only
  go_simp
  simp only [ba_inj]
  by_cases h0 : qa = qa'
  · subst h0
    simp
  · simp [h0]
set_option maxRecDepth 100000 in
set_option maxHeartbeats 4000000 in
theorem equalEvent_any (v v' : Value) (xs ys : List MEvent) (w : World) (h : Row w 1 REvent v xs) (h' : Row w 1 REvent v' ys) :
    Calls Try.prog 108 #[v, v'] w fun e w' => e = .returned (.bool (eqB sameEvent xs ys)) ∧ Below w.heap.size w w' := by
  obtain ⟨a, cap, rfl, hm⟩ := h.form
  obtain ⟨a', cap', rfl, hm'⟩ := h'.form
  obtain ⟨n, hn⟩ : ∃ n, xs.length = n := ⟨_, rfl⟩
  obtain ⟨m, hn'⟩ : ∃ m, ys.length = m := ⟨_, rfl⟩
  rw [hn] at h hm ⊢
  rw [hn'] at h' hm' ⊢
  have HN := Lib.hid hn
  have HN' := Lib.hid hn'
  have H := Lib.hid h
  have H' := Lib.hid h'
  unfold rowMax at hm hm'
  clear hn h hn' h'
  by_cases hnm : n = m
  · subst hnm
    go_enter Try.func108, Try.ntmps108
    go_wp2_with fail
    go_loopw [13] (fun v wr => ERel sameEvent n xs ys w v wr) (fun v => fun _ => n - (intOf v).toNat)
    case atStart => exact ERel.start (Below.refl _ _)
    case round =>
      obtain ⟨⟨j, hj, rfl, hall, hb⟩⟩ := hrel
      have HJ := Lib.hid hj
      have HA := Lib.hid hall
      have HB := Lib.hid hb
      clear hj hall hb
      by_cases hlt : j < n
      · have hjI : (j : Int) < (n : Int) := by omega
        have HX : Hid (j < n) := hlt
        obtain ⟨hnx, b, off, x, cs, rfl, hbl, hx, hR, _, hc⟩ := H.out.at_ j hlt
        clear hnx hbl
        obtain ⟨hnx, b', off', y, cs', rfl, hbl, hy, hR', _, hc'⟩ := H'.out.at_ j hlt
        clear hnx hbl
        have HXS := Lib.hid hx
        have HYS := Lib.hid hy
        obtain ⟨qa⟩ := x
        obtain ⟨qa'⟩ := y
        obtain ⟨rfl, _⟩ := hR
        obtain ⟨rfl, _⟩ := hR'
        have d0 : wr.cell? ⟨b, off + j, none⟩ = some (.string qa) := cell_later HB.out (by simpa using hc 0 _ rfl)
        have e0 : wr.cell? ⟨b', off' + j, none⟩ = some (.string qa') := cell_later HB.out (by simpa using hc' 0 _ rfl)
        obtain ⟨t, ht⟩ : ∃ t, sameEvent ⟨qa⟩ ⟨qa'⟩ = t := ⟨_, rfl⟩
        have HT := Lib.hid ht
        have RUN : ∀ W, (binOp .neq 115 (.agg #[.string qa]) (.agg #[.string qa'])).run Try.prog W = .ok (.bool (!t)) W := fun W => by rw [← ht]; exact neqEvent qa qa' W
        clear hc hc' hx hy ht hlt
        cases t with
        | true =>
          rw [Bool.not_true] at RUN
          go_wp2_with fail
          go_quiet (fail)
          go_wp2_with fail
          go_roundw
          case rel =>
            have Q : ∀ N, ERel sameEvent n xs ys w (.int .i64 ((j : Int) + 1)) (wr.drewN N) := fun N => ERel.next HX.out HXS.out HYS.out HT.out HA.out (below_drewN HB.out N)
            first | exact Q _ | ((repeat apply Exists.intro); exact ⟨Q _, rfl⟩)
          case measure => have := HX.out; simp [intOf]; omega
        | false =>
          rw [Bool.not_false] at RUN
          have HF : Hid (eqB sameEvent xs ys = false) := eqB_el HXS.out HYS.out HT.out
          go_wp2_with fail
          go_quiet (fail)
          go_wp2_with fail
          go_ret
          exact ⟨by rw [HF.out]; rfl, below_drewN HB.out _⟩
      · have hjI : ¬ (j : Int) < (n : Int) := by omega
        have HF : Hid (eqB sameEvent xs ys = true) := eqB_ok HN.out HN'.out HJ.out hlt HA.out
        go_wp2_with fail
        go_ret
        exact ⟨by rw [HF.out]; rfl, HB.out⟩
  · have HF : Hid (eqB sameEvent xs ys = false) := eqB_len HN.out HN'.out hnm
    have hnmB : ((n : Int) == (m : Int)) = false := by rw [beq_eq_false_iff_ne]; omega
    have hnmC : ((n : Int) != (m : Int)) = true := by rw [bne_iff_ne]; omega
    go_enter Try.func108, Try.ntmps108
    go_wp2_with fail
    go_ret
    exact ⟨by rw [HF.out]; rfl, Below.refl _ _⟩
def sameBoard (x y : MBoard) : Bool := decide (x.qa = y.qa) && decide (x.qb = y.qb)
set_option maxHeartbeats 4000000 in
theorem neqBoard (qa : ByteArray) (qb : Int) (qa' : ByteArray) (qb' : Int) (w : World) : (binOp .neq 117 (.agg #[.string qa, .int .i64 qb]) (.agg #[.string qa', .int .i64 qb'])).run Try.prog w = .ok (.bool (!sameBoard ⟨qa, qb⟩ ⟨qa', qb'⟩)) w := by
  unfold sameBoard
  dsimp only
  go_simp
  simp only [ba_inj]
  by_cases h0 : qa = qa'
  · subst h0
    by_cases h1 : qb = qb'
    · subst h1
      simp
    · simp [h1]
  · simp [h0]
set_option maxRecDepth 100000 in
set_option maxHeartbeats 4000000 in
theorem equalBoard_any (v v' : Value) (xs ys : List MBoard) (w : World) (h : Row w 2 RBoard v xs) (h' : Row w 2 RBoard v' ys) :
    Calls Try.prog 109 #[v, v'] w fun e w' => e = .returned (.bool (eqB sameBoard xs ys)) ∧ Below w.heap.size w w' := by
  obtain ⟨a, cap, rfl, hm⟩ := h.form
  obtain ⟨a', cap', rfl, hm'⟩ := h'.form
  obtain ⟨n, hn⟩ : ∃ n, xs.length = n := ⟨_, rfl⟩
  obtain ⟨m, hn'⟩ : ∃ m, ys.length = m := ⟨_, rfl⟩
  rw [hn] at h hm ⊢
  rw [hn'] at h' hm' ⊢
  have HN := Lib.hid hn
  have HN' := Lib.hid hn'
  have H := Lib.hid h
  have H' := Lib.hid h'
  unfold rowMax at hm hm'
  clear hn h hn' h'
  by_cases hnm : n = m
  · subst hnm
    go_enter Try.func109, Try.ntmps109
    go_wp2_with fail
    go_loopw [13] (fun v wr => ERel sameBoard n xs ys w v wr) (fun v => fun _ => n - (intOf v).toNat)
    case atStart => exact ERel.start (Below.refl _ _)
    case round =>
      obtain ⟨⟨j, hj, rfl, hall, hb⟩⟩ := hrel
      have HJ := Lib.hid hj
      have HA := Lib.hid hall
      have HB := Lib.hid hb
      clear hj hall hb
      by_cases hlt : j < n
      · have hjI : (j : Int) < (n : Int) := by omega
        have HX : Hid (j < n) := hlt
        obtain ⟨hnx, b, off, x, cs, rfl, hbl, hx, hR, _, hc⟩ := H.out.at_ j hlt
        clear hnx hbl
        obtain ⟨hnx, b', off', y, cs', rfl, hbl, hy, hR', _, hc'⟩ := H'.out.at_ j hlt
        clear hnx hbl
        have HXS := Lib.hid hx
        have HYS := Lib.hid hy
        obtain ⟨qa, qb⟩ := x
        obtain ⟨qa', qb'⟩ := y
        obtain ⟨rfl, _⟩ := hR
        obtain ⟨rfl, _⟩ := hR'
        have d0 : wr.cell? ⟨b, off + j * 2, none⟩ = some (.string qa) := cell_later HB.out (hc 0 _ rfl)
        have d1 : wr.cell? ⟨b, off + j * 2 + 1, none⟩ = some (.int .i64 qb) := cell_later HB.out (hc 1 _ rfl)
        have e0 : wr.cell? ⟨b', off' + j * 2, none⟩ = some (.string qa') := cell_later HB.out (hc' 0 _ rfl)
        have e1 : wr.cell? ⟨b', off' + j * 2 + 1, none⟩ = some (.int .i64 qb') := cell_later HB.out (hc' 1 _ rfl)
        obtain ⟨t, ht⟩ : ∃ t, sameBoard ⟨qa, qb⟩ ⟨qa', qb'⟩ = t := ⟨_, rfl⟩
        have HT := Lib.hid ht
        have RUN : ∀ W, (binOp .neq 117 (.agg #[.string qa, .int .i64 qb]) (.agg #[.string qa', .int .i64 qb'])).run Try.prog W = .ok (.bool (!t)) W := fun W => by rw [← ht]; exact neqBoard qa qb qa' qb' W
        clear hc hc' hx hy ht hlt
        cases t with
        | true =>
          rw [Bool.not_true] at RUN
          go_wp2_with fail
          go_quiet (fail)
          go_wp2_with fail
          go_roundw
          case rel =>
            have Q : ∀ N, ERel sameBoard n xs ys w (.int .i64 ((j : Int) + 1)) (wr.drewN N) := fun N => ERel.next HX.out HXS.out HYS.out HT.out HA.out (below_drewN HB.out N)
            first | exact Q _ | ((repeat apply Exists.intro); exact ⟨Q _, rfl⟩)
          case measure => have := HX.out; simp [intOf]; omega
        | false =>
          rw [Bool.not_false] at RUN
          have HF : Hid (eqB sameBoard xs ys = false) := eqB_el HXS.out HYS.out HT.out
          go_wp2_with fail
          go_quiet (fail)
          go_wp2_with fail
          go_ret
          exact ⟨by rw [HF.out]; rfl, below_drewN HB.out _⟩
      · have hjI : ¬ (j : Int) < (n : Int) := by omega
        have HF : Hid (eqB sameBoard xs ys = true) := eqB_ok HN.out HN'.out HJ.out hlt HA.out
        go_wp2_with fail
        go_ret
        exact ⟨by rw [HF.out]; rfl, HB.out⟩
  · have HF : Hid (eqB sameBoard xs ys = false) := eqB_len HN.out HN'.out hnm
    have hnmB : ((n : Int) == (m : Int)) = false := by rw [beq_eq_false_iff_ne]; omega
    have hnmC : ((n : Int) != (m : Int)) = true := by rw [bne_iff_ne]; omega
    go_enter Try.func109, Try.ntmps109
    go_wp2_with fail
    go_ret
    exact ⟨by rw [HF.out]; rfl, Below.refl _ _⟩
def sameBuffer (x y : MBuffer) : Bool := decide (x.qa = y.qa) && decide (x.qb = y.qb) && decide (x.qc = y.qc) && decide (x.qd = y.qd)
set_option maxHeartbeats 4000000 in
theorem neqBuffer (qa : ByteArray) (qb : Int) (qc : Int) (qd : Bool) (qa' : ByteArray) (qb' : Int) (qc' : Int) (qd' : Bool) (w : World) : (binOp .neq 119 (.agg #[.string qa, .int .i64 qb, .int .i64 qc, .bool qd]) (.agg #[.string qa', .int .i64 qb', .int .i64 qc', .bool qd'])).run Try.prog w = .ok (.bool (!sameBuffer ⟨qa, qb, qc, qd⟩ ⟨qa', qb', qc', qd'⟩)) w := by
  unfold sameBuffer
  dsimp only
  go_simp
  simp only [ba_inj]
  by_cases h0 : qa = qa'
  · subst h0
    by_cases h1 : qb = qb'
    · subst h1
      by_cases h2 : qc = qc'
      · subst h2
        by_cases h3 : qd = qd'
        · subst h3
          simp
        · simp [h3]
      · simp [h2]
    · simp [h1]
  · simp [h0]
set_option maxRecDepth 100000 in
set_option maxHeartbeats 4000000 in
theorem equalBuffer_any (v v' : Value) (xs ys : List MBuffer) (w : World) (h : Row w 4 RBuffer v xs) (h' : Row w 4 RBuffer v' ys) :
    Calls Try.prog 110 #[v, v'] w fun e w' => e = .returned (.bool (eqB sameBuffer xs ys)) ∧ Below w.heap.size w w' := by
  obtain ⟨a, cap, rfl, hm⟩ := h.form
  obtain ⟨a', cap', rfl, hm'⟩ := h'.form
  obtain ⟨n, hn⟩ : ∃ n, xs.length = n := ⟨_, rfl⟩
  obtain ⟨m, hn'⟩ : ∃ m, ys.length = m := ⟨_, rfl⟩
  rw [hn] at h hm ⊢
  rw [hn'] at h' hm' ⊢
  have HN := Lib.hid hn
  have HN' := Lib.hid hn'
  have H := Lib.hid h
  have H' := Lib.hid h'
  unfold rowMax at hm hm'
  clear hn h hn' h'
  by_cases hnm : n = m
  · subst hnm
    go_enter Try.func110, Try.ntmps110
    go_wp2_with fail
    go_loopw [13] (fun v wr => ERel sameBuffer n xs ys w v wr) (fun v => fun _ => n - (intOf v).toNat)
    case atStart => exact ERel.start (Below.refl _ _)
    case round =>
      obtain ⟨⟨j, hj, rfl, hall, hb⟩⟩ := hrel
      have HJ := Lib.hid hj
      have HA := Lib.hid hall
      have HB := Lib.hid hb
      clear hj hall hb
      by_cases hlt : j < n
      · have hjI : (j : Int) < (n : Int) := by omega
        have HX : Hid (j < n) := hlt
        obtain ⟨hnx, b, off, x, cs, rfl, hbl, hx, hR, _, hc⟩ := H.out.at_ j hlt
        clear hnx hbl
        obtain ⟨hnx, b', off', y, cs', rfl, hbl, hy, hR', _, hc'⟩ := H'.out.at_ j hlt
        clear hnx hbl
        have HXS := Lib.hid hx
        have HYS := Lib.hid hy
        obtain ⟨qa, qb, qc, qd⟩ := x
        obtain ⟨qa', qb', qc', qd'⟩ := y
        obtain ⟨rfl, _⟩ := hR
        obtain ⟨rfl, _⟩ := hR'
        have d0 : wr.cell? ⟨b, off + j * 4, none⟩ = some (.string qa) := cell_later HB.out (hc 0 _ rfl)
        have d1 : wr.cell? ⟨b, off + j * 4 + 1, none⟩ = some (.int .i64 qb) := cell_later HB.out (hc 1 _ rfl)
        have d2 : wr.cell? ⟨b, off + j * 4 + 2, none⟩ = some (.int .i64 qc) := cell_later HB.out (hc 2 _ rfl)
        have d3 : wr.cell? ⟨b, off + j * 4 + 3, none⟩ = some (.bool qd) := cell_later HB.out (hc 3 _ rfl)
        have e0 : wr.cell? ⟨b', off' + j * 4, none⟩ = some (.string qa') := cell_later HB.out (hc' 0 _ rfl)
        have e1 : wr.cell? ⟨b', off' + j * 4 + 1, none⟩ = some (.int .i64 qb') := cell_later HB.out (hc' 1 _ rfl)
        have e2 : wr.cell? ⟨b', off' + j * 4 + 2, none⟩ = some (.int .i64 qc') := cell_later HB.out (hc' 2 _ rfl)
        have e3 : wr.cell? ⟨b', off' + j * 4 + 3, none⟩ = some (.bool qd') := cell_later HB.out (hc' 3 _ rfl)
        obtain ⟨t, ht⟩ : ∃ t, sameBuffer ⟨qa, qb, qc, qd⟩ ⟨qa', qb', qc', qd'⟩ = t := ⟨_, rfl⟩
        have HT := Lib.hid ht
        have RUN : ∀ W, (binOp .neq 119 (.agg #[.string qa, .int .i64 qb, .int .i64 qc, .bool qd]) (.agg #[.string qa', .int .i64 qb', .int .i64 qc', .bool qd'])).run Try.prog W = .ok (.bool (!t)) W := fun W => by rw [← ht]; exact neqBuffer qa qb qc qd qa' qb' qc' qd' W
        clear hc hc' hx hy ht hlt
        cases t with
        | true =>
          rw [Bool.not_true] at RUN
          go_wp2_with fail
          go_quiet (fail)
          go_wp2_with fail
          go_roundw
          case rel =>
            have Q : ∀ N, ERel sameBuffer n xs ys w (.int .i64 ((j : Int) + 1)) (wr.drewN N) := fun N => ERel.next HX.out HXS.out HYS.out HT.out HA.out (below_drewN HB.out N)
            first | exact Q _ | ((repeat apply Exists.intro); exact ⟨Q _, rfl⟩)
          case measure => have := HX.out; simp [intOf]; omega
        | false =>
          rw [Bool.not_false] at RUN
          have HF : Hid (eqB sameBuffer xs ys = false) := eqB_el HXS.out HYS.out HT.out
          go_wp2_with fail
          go_quiet (fail)
          go_wp2_with fail
          go_ret
          exact ⟨by rw [HF.out]; rfl, below_drewN HB.out _⟩
      · have hjI : ¬ (j : Int) < (n : Int) := by omega
        have HF : Hid (eqB sameBuffer xs ys = true) := eqB_ok HN.out HN'.out HJ.out hlt HA.out
        go_wp2_with fail
        go_ret
        exact ⟨by rw [HF.out]; rfl, HB.out⟩
  · have HF : Hid (eqB sameBuffer xs ys = false) := eqB_len HN.out HN'.out hnm
    have hnmB : ((n : Int) == (m : Int)) = false := by rw [beq_eq_false_iff_ne]; omega
    have hnmC : ((n : Int) != (m : Int)) = true := by rw [bne_iff_ne]; omega
    go_enter Try.func110, Try.ntmps110
    go_wp2_with fail
    go_ret
    exact ⟨by rw [HF.out]; rfl, Below.refl _ _⟩
def samePort (x y : MPort) : Bool := decide (x.qa = y.qa) && decide (x.qb = y.qb) && decide (x.qc = y.qc) && decide (x.qd = y.qd) && decide (x.qe = y.qe) && decide (x.qf = y.qf)
set_option maxHeartbeats 4000000 in
theorem neqPort (qa : ByteArray) (qb : Bool) (qc : Bool) (qd : Int) (qe : Int) (qf : Int) (qa' : ByteArray) (qb' : Bool) (qc' : Bool) (qd' : Int) (qe' : Int) (qf' : Int) (w : World) : (binOp .neq 57 (.agg #[.string qa, .bool qb, .bool qc, .int .i64 qd, .int .i64 qe, .int .i64 qf]) (.agg #[.string qa', .bool qb', .bool qc', .int .i64 qd', .int .i64 qe', .int .i64 qf'])).run Try.prog w = .ok (.bool (!samePort ⟨qa, qb, qc, qd, qe, qf⟩ ⟨qa', qb', qc', qd', qe', qf'⟩)) w := by
  unfold samePort
  dsimp only
  go_simp
  simp only [ba_inj]
  by_cases h0 : qa = qa'
  · subst h0
    by_cases h1 : qb = qb'
    · subst h1
      by_cases h2 : qc = qc'
      · subst h2
        by_cases h3 : qd = qd'
        · subst h3
          by_cases h4 : qe = qe'
          · subst h4
            by_cases h5 : qf = qf'
            · subst h5
              simp
            · simp [h5]
          · simp [h4]
        · simp [h3]
      · simp [h2]
    · simp [h1]
  · simp [h0]
set_option maxRecDepth 100000 in
set_option maxHeartbeats 4000000 in
theorem equalPort_any (v v' : Value) (xs ys : List MPort) (w : World) (h : Row w 6 RPort v xs) (h' : Row w 6 RPort v' ys) :
    Calls Try.prog 111 #[v, v'] w fun e w' => e = .returned (.bool (eqB samePort xs ys)) ∧ Below w.heap.size w w' := by
  obtain ⟨a, cap, rfl, hm⟩ := h.form
  obtain ⟨a', cap', rfl, hm'⟩ := h'.form
  obtain ⟨n, hn⟩ : ∃ n, xs.length = n := ⟨_, rfl⟩
  obtain ⟨m, hn'⟩ : ∃ m, ys.length = m := ⟨_, rfl⟩
  rw [hn] at h hm ⊢
  rw [hn'] at h' hm' ⊢
  have HN := Lib.hid hn
  have HN' := Lib.hid hn'
  have H := Lib.hid h
  have H' := Lib.hid h'
  unfold rowMax at hm hm'
  clear hn h hn' h'
  by_cases hnm : n = m
  · subst hnm
    go_enter Try.func111, Try.ntmps111
    go_wp2_with fail
    go_loopw [13] (fun v wr => ERel samePort n xs ys w v wr) (fun v => fun _ => n - (intOf v).toNat)
    case atStart => exact ERel.start (Below.refl _ _)
    case round =>
      obtain ⟨⟨j, hj, rfl, hall, hb⟩⟩ := hrel
      have HJ := Lib.hid hj
      have HA := Lib.hid hall
      have HB := Lib.hid hb
      clear hj hall hb
      by_cases hlt : j < n
      · have hjI : (j : Int) < (n : Int) := by omega
        have HX : Hid (j < n) := hlt
        obtain ⟨hnx, b, off, x, cs, rfl, hbl, hx, hR, _, hc⟩ := H.out.at_ j hlt
        clear hnx hbl
        obtain ⟨hnx, b', off', y, cs', rfl, hbl, hy, hR', _, hc'⟩ := H'.out.at_ j hlt
        clear hnx hbl
        have HXS := Lib.hid hx
        have HYS := Lib.hid hy
        obtain ⟨qa, qb, qc, qd, qe, qf⟩ := x
        obtain ⟨qa', qb', qc', qd', qe', qf'⟩ := y
        obtain ⟨rfl, _⟩ := hR
        obtain ⟨rfl, _⟩ := hR'
        have d0 : wr.cell? ⟨b, off + j * 6, none⟩ = some (.string qa) := cell_later HB.out (hc 0 _ rfl)
        have d1 : wr.cell? ⟨b, off + j * 6 + 1, none⟩ = some (.bool qb) := cell_later HB.out (hc 1 _ rfl)
        have d2 : wr.cell? ⟨b, off + j * 6 + 2, none⟩ = some (.bool qc) := cell_later HB.out (hc 2 _ rfl)
        have d3 : wr.cell? ⟨b, off + j * 6 + 3, none⟩ = some (.int .i64 qd) := cell_later HB.out (hc 3 _ rfl)
        have d4 : wr.cell? ⟨b, off + j * 6 + 4, none⟩ = some (.int .i64 qe) := cell_later HB.out (hc 4 _ rfl)
        have d5 : wr.cell? ⟨b, off + j * 6 + 5, none⟩ = some (.int .i64 qf) := cell_later HB.out (hc 5 _ rfl)
        have e0 : wr.cell? ⟨b', off' + j * 6, none⟩ = some (.string qa') := cell_later HB.out (hc' 0 _ rfl)
        have e1 : wr.cell? ⟨b', off' + j * 6 + 1, none⟩ = some (.bool qb') := cell_later HB.out (hc' 1 _ rfl)
        have e2 : wr.cell? ⟨b', off' + j * 6 + 2, none⟩ = some (.bool qc') := cell_later HB.out (hc' 2 _ rfl)
        have e3 : wr.cell? ⟨b', off' + j * 6 + 3, none⟩ = some (.int .i64 qd') := cell_later HB.out (hc' 3 _ rfl)
        have e4 : wr.cell? ⟨b', off' + j * 6 + 4, none⟩ = some (.int .i64 qe') := cell_later HB.out (hc' 4 _ rfl)
        have e5 : wr.cell? ⟨b', off' + j * 6 + 5, none⟩ = some (.int .i64 qf') := cell_later HB.out (hc' 5 _ rfl)
        obtain ⟨t, ht⟩ : ∃ t, samePort ⟨qa, qb, qc, qd, qe, qf⟩ ⟨qa', qb', qc', qd', qe', qf'⟩ = t := ⟨_, rfl⟩
        have HT := Lib.hid ht
        have RUN : ∀ W, (binOp .neq 57 (.agg #[.string qa, .bool qb, .bool qc, .int .i64 qd, .int .i64 qe, .int .i64 qf]) (.agg #[.string qa', .bool qb', .bool qc', .int .i64 qd', .int .i64 qe', .int .i64 qf'])).run Try.prog W = .ok (.bool (!t)) W := fun W => by rw [← ht]; exact neqPort qa qb qc qd qe qf qa' qb' qc' qd' qe' qf' W
        clear hc hc' hx hy ht hlt
        cases t with
        | true =>
          rw [Bool.not_true] at RUN
          go_wp2_with fail
          go_quiet (fail)
          go_wp2_with fail
          go_roundw
          case rel =>
            have Q : ∀ N, ERel samePort n xs ys w (.int .i64 ((j : Int) + 1)) (wr.drewN N) := fun N => ERel.next HX.out HXS.out HYS.out HT.out HA.out (below_drewN HB.out N)
            first | exact Q _ | ((repeat apply Exists.intro); exact ⟨Q _, rfl⟩)
          case measure => have := HX.out; simp [intOf]; omega
        | false =>
          rw [Bool.not_false] at RUN
          have HF : Hid (eqB samePort xs ys = false) := eqB_el HXS.out HYS.out HT.out
          go_wp2_with fail
          go_quiet (fail)
          go_wp2_with fail
          go_ret
          exact ⟨by rw [HF.out]; rfl, below_drewN HB.out _⟩
      · have hjI : ¬ (j : Int) < (n : Int) := by omega
        have HF : Hid (eqB samePort xs ys = true) := eqB_ok HN.out HN'.out HJ.out hlt HA.out
        go_wp2_with fail
        go_ret
        exact ⟨by rw [HF.out]; rfl, HB.out⟩
  · have HF : Hid (eqB samePort xs ys = false) := eqB_len HN.out HN'.out hnm
    have hnmB : ((n : Int) == (m : Int)) = false := by rw [beq_eq_false_iff_ne]; omega
    have hnmC : ((n : Int) != (m : Int)) = true := by rw [bne_iff_ne]; omega
    go_enter Try.func111, Try.ntmps111
    go_wp2_with fail
    go_ret
    exact ⟨by rw [HF.out]; rfl, Below.refl _ _⟩
end Go.Proofs.Ytchlgihanogeeaa
