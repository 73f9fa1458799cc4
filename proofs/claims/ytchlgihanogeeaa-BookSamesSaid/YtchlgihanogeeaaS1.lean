/-
  Which elements and lists are the same: schedules, channels. Each statement bears its own conditions.
-/
import Derived.Test.YtchlgihanogeeaaE1
import Derived.Test.YtchlgihanogeeaaE2
import Derived.Test.YtchlgihanogeeaaE3
import Derived.Deep.QuietTactic
import Derived.BigQuiet
namespace Go.Proofs.Ytchlgihanogeeaa
open Go.RowKit
set_option linter.unusedVariables false
set_option linter.unusedSimpArgs false
theorem str_eq (a b : ByteArray) : (a.toList == b.toList) = decide (a = b) := by
  rw [Bool.eq_iff_iff]; simp [ba_inj]
set_option maxHeartbeats 4000000 in
theorem eqlEnd (qa : Int) (qb : Int) (qa' : Int) (qb' : Int) (w : World) : (binOp .eql 69 (.agg #[.int .i64 qa, .int .i64 qb]) (.agg #[.int .i64 qa', .int .i64 qb'])).run Try.prog w = .ok (.bool (sameEnd ⟨qa, qb⟩ ⟨qa', qb'⟩)) w := by
  unfold sameEnd
  dsimp only
  go_simp
  by_cases h0 : qa = qa'
  · subst h0
    by_cases h1 : qb = qb'
    · subst h1
      simp
    · simp [h1]
  · simp [h0]
set_option maxHeartbeats 4000000 in
theorem eqlBudget (qa : Int) (qb : Int) (qa' : Int) (qb' : Int) (w : World) : (binOp .eql 50 (.agg #[.int .i64 qa, .int .i64 qb]) (.agg #[.int .i64 qa', .int .i64 qb'])).run Try.prog w = .ok (.bool (sameBudget ⟨qa, qb⟩ ⟨qa', qb'⟩)) w := by
  unfold sameBudget
  dsimp only
  go_simp
  by_cases h0 : qa = qa'
  · subst h0
    by_cases h1 : qb = qb'
    · subst h1
      simp
    · simp [h1]
  · simp [h0]
def sameSchedule (x y : MSchedule) : Bool := decide (x.qa = y.qa) && decide (x.qb = y.qb) && eqB sameWindow x.qc y.qc
set_option maxRecDepth 100000 in
set_option maxHeartbeats 8000000 in
theorem sameSchedule_core (qa : ByteArray) (qb : Int) (qc : List MWindow) (vqc : Value) (qa' : ByteArray) (qb' : Int) (qc' : List MWindow) (vqc' : Value) (w : World) (hqc : Row w 3 RWindow vqc qc) (hqc' : Row w 3 RWindow vqc' qc') :
    Calls Try.prog 48 #[.agg #[.string qa, .int .i64 qb, vqc], .agg #[.string qa', .int .i64 qb', vqc']] w fun e w' => e = .returned (.bool (sameSchedule ⟨qa, qb, qc⟩ ⟨qa', qb', qc'⟩)) ∧ Below w.heap.size w w' := by
  obtain ⟨aqc, cqc, rfl, hmqc⟩ := hqc.form
  clear hmqc
  obtain ⟨nqc, hnqc⟩ : ∃ n, qc.length = n := ⟨_, rfl⟩
  rw [hnqc] at hqc ⊢
  clear hnqc
  obtain ⟨aqc', cqc', rfl, hmqc'⟩ := hqc'.form
  clear hmqc'
  obtain ⟨nqc', hnqc'⟩ : ∃ n, qc'.length = n := ⟨_, rfl⟩
  rw [hnqc'] at hqc' ⊢
  clear hnqc'
  obtain ⟨t0, h0⟩ : ∃ t : Bool, decide (qa = qa') = t := ⟨_, rfl⟩
  obtain ⟨t1, h1⟩ : ∃ t : Bool, decide (qb = qb') = t := ⟨_, rfl⟩
  obtain ⟨t2, h2⟩ : ∃ t : Bool, eqB sameWindow qc qc' = t := ⟨_, rfl⟩
  have HR : Hid (sameSchedule ⟨qa, qb, qc⟩ ⟨qa', qb', qc'⟩ = (t0 && t1 && t2)) := by unfold Hid sameSchedule; dsimp only; rw [h0, h1, h2]
  have C0 : (qa.toList == qa'.toList) = t0 := by rw [str_eq]; exact h0
  have C1 : (qb == qb') = t1 := h1
  have C2 : Hid (∀ W, Below w.heap.size w W → Calls Try.prog 112 #[.slice aqc nqc cqc, .slice aqc' nqc' cqc'] W fun e w' => e = .returned (.bool t2) ∧ Below W.heap.size W w') := fun W hB => by rw [← h2]; exact equalWindow_any _ _ qc qc' W (hqc.below hB) (hqc'.below hB)
  clear h0 h1 h2 hqc hqc'
  cases t0 with
  | false =>
    go_enter Try.func48, Try.ntmps48
    go_wp2_with fail
    go_ret
    exact ⟨by rw [HR.out]; rfl, ((Below.refl _ _).alloc (Nat.le_refl _) _).alloc (by simp) _⟩
  | true =>
    cases t1 with
    | false =>
      go_enter Try.func48, Try.ntmps48
      go_wp2_with fail
      go_ret
      exact ⟨by rw [HR.out]; rfl, ((Below.refl _ _).alloc (Nat.le_refl _) _).alloc (by simp) _⟩
    | true =>
      cases t2 with
      | false =>
        go_enter Try.func48, Try.ntmps48
        go_wp2_with fail
        obtain ⟨W0, hW0⟩ : ∃ W0, (w.alloc (.cells #[.string qa, .int .i64 qb, .slice aqc nqc cqc] 65)).alloc (.cells #[.string qa', .int .i64 qb', .slice aqc' nqc' cqc'] 65) = W0 := ⟨_, rfl⟩
        have HX : Hid (∀ (j : Nat) u, [.string qa, .int .i64 qb, .slice aqc nqc cqc][j]? = some u → W0.cell? ⟨w.heap.size, j, none⟩ = some u) := fun j u hu => by rw [← hW0]; exact cell_al _ (by rw [World.cell?_alloc_new]; simpa using hu)
        have HY : Hid (∀ (j : Nat) u, [.string qa', .int .i64 qb', .slice aqc' nqc' cqc'][j]? = some u → W0.cell? ⟨w.heap.size + 1, j, none⟩ = some u) := fun j u hu => by rw [← hW0, show w.heap.size + 1 = (w.alloc (.cells #[.string qa, .int .i64 qb, .slice aqc nqc cqc] 65)).heap.size by simp, World.cell?_alloc_new]; simpa using hu
        have BW : Hid (Below w.heap.size w W0) := by rw [← hW0]; exact ((Below.refl _ _).alloc (Nat.le_refl _) _).alloc (by simp) _
        have B0 : Hid (Below W0.heap.size W0 W0) := Below.refl _ _
        rw [hW0]
        clear hW0
        refine (C2.out _ (BW.out.trans (B0.out.mono BW.out.size))).mono ?_
        rintro e W1 ⟨rfl, b⟩
        have B1 : Hid (Below W0.heap.size W0 W1) := B0.out.trans (b.mono B0.out.size)
        clear b
        go_wp2_with fail
        go_ret
        exact ⟨by rw [HR.out]; rfl, BW.out.trans (B1.out.mono BW.out.size)⟩
      | true =>
        go_enter Try.func48, Try.ntmps48
        go_wp2_with fail
        obtain ⟨W0, hW0⟩ : ∃ W0, (w.alloc (.cells #[.string qa, .int .i64 qb, .slice aqc nqc cqc] 65)).alloc (.cells #[.string qa', .int .i64 qb', .slice aqc' nqc' cqc'] 65) = W0 := ⟨_, rfl⟩
        have HX : Hid (∀ (j : Nat) u, [.string qa, .int .i64 qb, .slice aqc nqc cqc][j]? = some u → W0.cell? ⟨w.heap.size, j, none⟩ = some u) := fun j u hu => by rw [← hW0]; exact cell_al _ (by rw [World.cell?_alloc_new]; simpa using hu)
        have HY : Hid (∀ (j : Nat) u, [.string qa', .int .i64 qb', .slice aqc' nqc' cqc'][j]? = some u → W0.cell? ⟨w.heap.size + 1, j, none⟩ = some u) := fun j u hu => by rw [← hW0, show w.heap.size + 1 = (w.alloc (.cells #[.string qa, .int .i64 qb, .slice aqc nqc cqc] 65)).heap.size by simp, World.cell?_alloc_new]; simpa using hu
        have BW : Hid (Below w.heap.size w W0) := by rw [← hW0]; exact ((Below.refl _ _).alloc (Nat.le_refl _) _).alloc (by simp) _
        have B0 : Hid (Below W0.heap.size W0 W0) := Below.refl _ _
        rw [hW0]
        clear hW0
        refine (C2.out _ (BW.out.trans (B0.out.mono BW.out.size))).mono ?_
        rintro e W1 ⟨rfl, b⟩
        have B1 : Hid (Below W0.heap.size W0 W1) := B0.out.trans (b.mono B0.out.size)
        clear b
        go_wp2_with fail
        go_ret
        exact ⟨by rw [HR.out]; rfl, BW.out.trans (B1.out.mono BW.out.size)⟩
set_option maxRecDepth 100000 in
set_option maxHeartbeats 4000000 in
theorem equalfSchedule_any (v v' : Value) (xs ys : List MSchedule) (w : World) (h : Row w 3 (RSchedule w) v xs) (h' : Row w 3 (RSchedule w) v' ys) :
    Calls Try.prog 47 #[v, v', .func (.func 48) #[] #[]] w fun e w' => e = .returned (.bool (eqB sameSchedule xs ys)) ∧ Below w.heap.size w w' := by
  obtain ⟨a, cap, rfl, hm⟩ := h.form
  obtain ⟨a', cap', rfl, hm'⟩ := h'.form
  obtain ⟨n, hn⟩ : ∃ n, xs.length = n := ⟨_, rfl⟩
  obtain ⟨m, hn'⟩ : ∃ m, ys.length = m := ⟨_, rfl⟩
  rw [hn] at h hm ⊢
  rw [hn'] at h' hm' ⊢
  have HN := Lib.hid hn
  have HN' := Lib.hid hn'
  have H := Lib.hid h
  have H' := Lib.hid h'
  unfold rowMax at hm hm'
  clear hn h hn' h'
  by_cases hnm : n = m
  · subst hnm
    go_enter Try.func47, Try.ntmps47
    go_wp2_with fail
    go_loopw [17] (fun v wr => ERel sameSchedule n xs ys w v wr) (fun v => fun _ => n - (intOf v).toNat)
    case atStart => exact ERel.start (Below.refl _ _)
    case round =>
      obtain ⟨⟨j, hj, rfl, hall, hb⟩⟩ := hrel
      have HJ := Lib.hid hj
      have HA := Lib.hid hall
      have HB := Lib.hid hb
      clear hj hall hb
      by_cases hlt : j < n
      · have hjI : (j : Int) < (n : Int) := by omega
        have HX : Hid (j < n) := hlt
        obtain ⟨hnx, b, off, x, cs, rfl, hbl, hx, hR, _, hc⟩ := H.out.at_ j hlt
        clear hnx hbl
        obtain ⟨hnx, b', off', y, cs', rfl, hbl, hy, hR', _, hc'⟩ := H'.out.at_ j hlt
        clear hnx hbl
        have HXS := Lib.hid hx
        have HYS := Lib.hid hy
        obtain ⟨qa, qb, qc⟩ := x
        obtain ⟨qa', qb', qc'⟩ := y
        replace hR : RSchedule wr _ _ := hR.below HB.out
        obtain ⟨vqc, rfl, _, hqc⟩ := hR
        obtain ⟨aqc, cqc, rfl, hmqc⟩ := hqc.form
        clear hmqc
        replace hR' : RSchedule wr _ _ := hR'.below HB.out
        obtain ⟨vqc', rfl, _, hqc'⟩ := hR'
        obtain ⟨aqc', cqc', rfl, hmqc'⟩ := hqc'.form
        clear hmqc'
        have d0 : wr.cell? ⟨b, off + j * 3, none⟩ = some (.string qa) := cell_later HB.out (hc 0 _ rfl)
        have d1 : wr.cell? ⟨b, off + j * 3 + 1, none⟩ = some (.int .i64 qb) := cell_later HB.out (hc 1 _ rfl)
        have d2 : wr.cell? ⟨b, off + j * 3 + 2, none⟩ = some (.slice aqc qc.length cqc) := cell_later HB.out (hc 2 _ rfl)
        have e0 : wr.cell? ⟨b', off' + j * 3, none⟩ = some (.string qa') := cell_later HB.out (hc' 0 _ rfl)
        have e1 : wr.cell? ⟨b', off' + j * 3 + 1, none⟩ = some (.int .i64 qb') := cell_later HB.out (hc' 1 _ rfl)
        have e2 : wr.cell? ⟨b', off' + j * 3 + 2, none⟩ = some (.slice aqc' qc'.length cqc') := cell_later HB.out (hc' 2 _ rfl)
        obtain ⟨t, ht⟩ : ∃ t, sameSchedule ⟨qa, qb, qc⟩ ⟨qa', qb', qc'⟩ = t := ⟨_, rfl⟩
        have HT := Lib.hid ht
        have LATER : ∀ j u, wr.cell? ⟨b', j, none⟩ = some u → (wr.alloc (.cells #[.string qa, .int .i64 qb, .slice aqc qc.length cqc] 65)).cell? ⟨b', j, none⟩ = some u := fun j u h => cell_al _ h
        replace e0 := LATER _ _ e0
        replace e1 := LATER _ _ e1
        replace e2 := LATER _ _ e2
        clear LATER
        have C : Hid (Calls Try.prog 48 #[.agg #[.string qa, .int .i64 qb, .slice aqc qc.length cqc], .agg #[.string qa', .int .i64 qb', .slice aqc' qc'.length cqc']] ((wr.alloc (.cells #[.string qa, .int .i64 qb, .slice aqc qc.length cqc] 65)).alloc (.cells #[.string qa', .int .i64 qb', .slice aqc' qc'.length cqc'] 65)) fun e w' => e = .returned (.bool t) ∧ Below ((wr.alloc (.cells #[.string qa, .int .i64 qb, .slice aqc qc.length cqc] 65)).alloc (.cells #[.string qa', .int .i64 qb', .slice aqc' qc'.length cqc'] 65)).heap.size ((wr.alloc (.cells #[.string qa, .int .i64 qb, .slice aqc qc.length cqc] 65)).alloc (.cells #[.string qa', .int .i64 qb', .slice aqc' qc'.length cqc'] 65)) w') := by
          unfold Hid
          have BZ : Below wr.heap.size wr ((wr.alloc (.cells #[.string qa, .int .i64 qb, .slice aqc qc.length cqc] 65)).alloc (.cells #[.string qa', .int .i64 qb', .slice aqc' qc'.length cqc'] 65)) := (((Below.refl _ _).alloc (Nat.le_refl _) _).alloc (by simp) _)
          rw [← ht]; exact sameSchedule_core qa qb qc (.slice aqc qc.length cqc) qa' qb' qc' (.slice aqc' qc'.length cqc') _ (hqc.below BZ) (hqc'.below BZ)
        have hbz : (wr.alloc (.cells #[.string qa, .int .i64 qb, .slice aqc qc.length cqc] 65)).heap.size = wr.heap.size + 1 := by simp
        clear hc hc' ht hlt hx hy hqc hqc'
        go_wp2_with fail
        refine C.out.mono ?_
        rintro e W1 ⟨rfl, b1⟩
        have HB1 : Hid (Below w.heap.size w W1) := ((HB.out.alloc HB.out.size _).alloc (by have := HB.out.size; simp; omega) _).trans (b1.mono (by have := HB.out.size; simp; omega))
        clear b1 C
        cases t with
        | true =>
          go_wp2_with fail
          go_roundw
          case rel =>
            have Q : ERel sameSchedule n xs ys w (.int .i64 ((j : Int) + 1)) W1 := ERel.next HX.out HXS.out HYS.out HT.out HA.out HB1.out
            first | exact Q | ((repeat apply Exists.intro); exact ⟨Q, rfl⟩)
          case measure => have := HX.out; simp [intOf]; omega
        | false =>
          have HF : Hid (eqB sameSchedule xs ys = false) := eqB_el HXS.out HYS.out HT.out
          go_wp2_with fail
          go_ret
          exact ⟨by rw [HF.out]; rfl, HB1.out⟩
      · have hjI : ¬ (j : Int) < (n : Int) := by omega
        have HF : Hid (eqB sameSchedule xs ys = true) := eqB_ok HN.out HN'.out HJ.out hlt HA.out
        go_wp2_with fail
        go_ret
        exact ⟨by rw [HF.out]; rfl, HB.out⟩
  · have HF : Hid (eqB sameSchedule xs ys = false) := eqB_len HN.out HN'.out hnm
    have hnmB : ((n : Int) == (m : Int)) = false := by rw [beq_eq_false_iff_ne]; omega
    have hnmC : ((n : Int) != (m : Int)) = true := by rw [bne_iff_ne]; omega
    go_enter Try.func47, Try.ntmps47
    go_wp2_with fail
    go_ret
    exact ⟨by rw [HF.out]; rfl, Below.refl _ _⟩
def sameChannel (x y : MChannel) : Bool := sameEnd ⟨x.qa, x.qb⟩ ⟨y.qa, y.qb⟩ && eqB sameEnd x.qc y.qc
set_option maxRecDepth 100000 in
set_option maxHeartbeats 8000000 in
theorem sameChannel_core (qa : Int) (qb : Int) (qc : List MEnd) (vqc : Value) (qa' : Int) (qb' : Int) (qc' : List MEnd) (vqc' : Value) (w : World) (hqc : Row w 2 REnd vqc qc) (hqc' : Row w 2 REnd vqc' qc') :
    Calls Try.prog 50 #[.agg #[.int .i64 qa, .int .i64 qb, vqc], .agg #[.int .i64 qa', .int .i64 qb', vqc']] w fun e w' => e = .returned (.bool (sameChannel ⟨qa, qb, qc⟩ ⟨qa', qb', qc'⟩)) ∧ Below w.heap.size w w' := by
  obtain ⟨aqc, cqc, rfl, hmqc⟩ := hqc.form
  clear hmqc
  obtain ⟨nqc, hnqc⟩ : ∃ n, qc.length = n := ⟨_, rfl⟩
  rw [hnqc] at hqc ⊢
  clear hnqc
  obtain ⟨aqc', cqc', rfl, hmqc'⟩ := hqc'.form
  clear hmqc'
  obtain ⟨nqc', hnqc'⟩ : ∃ n, qc'.length = n := ⟨_, rfl⟩
  rw [hnqc'] at hqc' ⊢
  clear hnqc'
  obtain ⟨t0, h0⟩ : ∃ t : Bool, sameEnd ⟨qa, qb⟩ ⟨qa', qb'⟩ = t := ⟨_, rfl⟩
  obtain ⟨t1, h1⟩ : ∃ t : Bool, eqB sameEnd qc qc' = t := ⟨_, rfl⟩
  have HR : Hid (sameChannel ⟨qa, qb, qc⟩ ⟨qa', qb', qc'⟩ = (t0 && t1)) := by unfold Hid sameChannel; dsimp only; rw [h0, h1]
  have C0 : ∀ W, (binOp .eql 69 (.agg #[.int .i64 qa, .int .i64 qb]) (.agg #[.int .i64 qa', .int .i64 qb'])).run Try.prog W = .ok (.bool t0) W := fun W => by rw [← h0]; exact eqlEnd qa qb qa' qb' W
  have C1 : Hid (∀ W, Below w.heap.size w W → Calls Try.prog 113 #[.slice aqc nqc cqc, .slice aqc' nqc' cqc'] W fun e w' => e = .returned (.bool t1) ∧ Below W.heap.size W w') := fun W hB => by rw [← h1]; exact equalEnd_any _ _ qc qc' W (hqc.below hB) (hqc'.below hB)
  clear h0 h1 hqc hqc'
  cases t0 with
  | false =>
    go_enter Try.func50, Try.ntmps50
    go_wp2_with fail
    go_ret
    exact ⟨by rw [HR.out]; rfl, ((Below.refl _ _).alloc (Nat.le_refl _) _).alloc (by simp) _⟩
  | true =>
    cases t1 with
    | false =>
      go_enter Try.func50, Try.ntmps50
      go_wp2_with fail
      obtain ⟨W0, hW0⟩ : ∃ W0, (w.alloc (.cells #[.int .i64 qa, .int .i64 qb, .slice aqc nqc cqc] 72)).alloc (.cells #[.int .i64 qa', .int .i64 qb', .slice aqc' nqc' cqc'] 72) = W0 := ⟨_, rfl⟩
      have HX : Hid (∀ (j : Nat) u, [.int .i64 qa, .int .i64 qb, .slice aqc nqc cqc][j]? = some u → W0.cell? ⟨w.heap.size, j, none⟩ = some u) := fun j u hu => by rw [← hW0]; exact cell_al _ (by rw [World.cell?_alloc_new]; simpa using hu)
      have HY : Hid (∀ (j : Nat) u, [.int .i64 qa', .int .i64 qb', .slice aqc' nqc' cqc'][j]? = some u → W0.cell? ⟨w.heap.size + 1, j, none⟩ = some u) := fun j u hu => by rw [← hW0, show w.heap.size + 1 = (w.alloc (.cells #[.int .i64 qa, .int .i64 qb, .slice aqc nqc cqc] 72)).heap.size by simp, World.cell?_alloc_new]; simpa using hu
      have BW : Hid (Below w.heap.size w W0) := by rw [← hW0]; exact ((Below.refl _ _).alloc (Nat.le_refl _) _).alloc (by simp) _
      have B0 : Hid (Below W0.heap.size W0 W0) := Below.refl _ _
      rw [hW0]
      clear hW0
      refine (C1.out _ (BW.out.trans (B0.out.mono BW.out.size))).mono ?_
      rintro e W1 ⟨rfl, b⟩
      have B1 : Hid (Below W0.heap.size W0 W1) := B0.out.trans (b.mono B0.out.size)
      clear b
      go_wp2_with fail
      go_ret
      exact ⟨by rw [HR.out]; rfl, BW.out.trans (B1.out.mono BW.out.size)⟩
    | true =>
      go_enter Try.func50, Try.ntmps50
      go_wp2_with fail
      obtain ⟨W0, hW0⟩ : ∃ W0, (w.alloc (.cells #[.int .i64 qa, .int .i64 qb, .slice aqc nqc cqc] 72)).alloc (.cells #[.int .i64 qa', .int .i64 qb', .slice aqc' nqc' cqc'] 72) = W0 := ⟨_, rfl⟩
      have HX : Hid (∀ (j : Nat) u, [.int .i64 qa, .int .i64 qb, .slice aqc nqc cqc][j]? = some u → W0.cell? ⟨w.heap.size, j, none⟩ = some u) := fun j u hu => by rw [← hW0]; exact cell_al _ (by rw [World.cell?_alloc_new]; simpa using hu)
      have HY : Hid (∀ (j : Nat) u, [.int .i64 qa', .int .i64 qb', .slice aqc' nqc' cqc'][j]? = some u → W0.cell? ⟨w.heap.size + 1, j, none⟩ = some u) := fun j u hu => by rw [← hW0, show w.heap.size + 1 = (w.alloc (.cells #[.int .i64 qa, .int .i64 qb, .slice aqc nqc cqc] 72)).heap.size by simp, World.cell?_alloc_new]; simpa using hu
      have BW : Hid (Below w.heap.size w W0) := by rw [← hW0]; exact ((Below.refl _ _).alloc (Nat.le_refl _) _).alloc (by simp) _
      have B0 : Hid (Below W0.heap.size W0 W0) := Below.refl _ _
      rw [hW0]
      clear hW0
      refine (C1.out _ (BW.out.trans (B0.out.mono BW.out.size))).mono ?_
      rintro e W1 ⟨rfl, b⟩
      have B1 : Hid (Below W0.heap.size W0 W1) := B0.out.trans (b.mono B0.out.size)
      clear b
      go_wp2_with fail
      go_ret
      exact ⟨by rw [HR.out]; rfl, BW.out.trans (B1.out.mono BW.out.size)⟩
set_option maxRecDepth 100000 in
set_option maxHeartbeats 4000000 in
theorem equalfChannel_any (v v' : Value) (xs ys : List MChannel) (w : World) (h : Row w 3 (RChannel w) v xs) (h' : Row w 3 (RChannel w) v' ys) :
    Calls Try.prog 49 #[v, v', .func (.func 50) #[] #[]] w fun e w' => e = .returned (.bool (eqB sameChannel xs ys)) ∧ Below w.heap.size w w' := by
  obtain ⟨a, cap, rfl, hm⟩ := h.form
  obtain ⟨a', cap', rfl, hm'⟩ := h'.form
  obtain ⟨n, hn⟩ : ∃ n, xs.length = n := ⟨_, rfl⟩
  obtain ⟨m, hn'⟩ : ∃ m, ys.length = m := ⟨_, rfl⟩
  rw [hn] at h hm ⊢
  rw [hn'] at h' hm' ⊢
  have HN := Lib.hid hn
  have HN' := Lib.hid hn'
  have H := Lib.hid h
  have H' := Lib.hid h'
  unfold rowMax at hm hm'
  clear hn h hn' h'
  by_cases hnm : n = m
  · subst hnm
    go_enter Try.func49, Try.ntmps49
    go_wp2_with fail
    go_loopw [17] (fun v wr => ERel sameChannel n xs ys w v wr) (fun v => fun _ => n - (intOf v).toNat)
    case atStart => exact ERel.start (Below.refl _ _)
    case round =>
      obtain ⟨⟨j, hj, rfl, hall, hb⟩⟩ := hrel
      have HJ := Lib.hid hj
      have HA := Lib.hid hall
      have HB := Lib.hid hb
      clear hj hall hb
      by_cases hlt : j < n
      · have hjI : (j : Int) < (n : Int) := by omega
        have HX : Hid (j < n) := hlt
        obtain ⟨hnx, b, off, x, cs, rfl, hbl, hx, hR, _, hc⟩ := H.out.at_ j hlt
        clear hnx hbl
        obtain ⟨hnx, b', off', y, cs', rfl, hbl, hy, hR', _, hc'⟩ := H'.out.at_ j hlt
        clear hnx hbl
        have HXS := Lib.hid hx
        have HYS := Lib.hid hy
        obtain ⟨qa, qb, qc⟩ := x
        obtain ⟨qa', qb', qc'⟩ := y
        replace hR : RChannel wr _ _ := hR.below HB.out
        obtain ⟨vqc, rfl, hqc⟩ := hR
        obtain ⟨aqc, cqc, rfl, hmqc⟩ := hqc.form
        clear hmqc
        replace hR' : RChannel wr _ _ := hR'.below HB.out
        obtain ⟨vqc', rfl, hqc'⟩ := hR'
        obtain ⟨aqc', cqc', rfl, hmqc'⟩ := hqc'.form
        clear hmqc'
        have d0 : wr.cell? ⟨b, off + j * 3, none⟩ = some (.int .i64 qa) := cell_later HB.out (hc 0 _ rfl)
        have d1 : wr.cell? ⟨b, off + j * 3 + 1, none⟩ = some (.int .i64 qb) := cell_later HB.out (hc 1 _ rfl)
        have d2 : wr.cell? ⟨b, off + j * 3 + 2, none⟩ = some (.slice aqc qc.length cqc) := cell_later HB.out (hc 2 _ rfl)
        have e0 : wr.cell? ⟨b', off' + j * 3, none⟩ = some (.int .i64 qa') := cell_later HB.out (hc' 0 _ rfl)
        have e1 : wr.cell? ⟨b', off' + j * 3 + 1, none⟩ = some (.int .i64 qb') := cell_later HB.out (hc' 1 _ rfl)
        have e2 : wr.cell? ⟨b', off' + j * 3 + 2, none⟩ = some (.slice aqc' qc'.length cqc') := cell_later HB.out (hc' 2 _ rfl)
        obtain ⟨t, ht⟩ : ∃ t, sameChannel ⟨qa, qb, qc⟩ ⟨qa', qb', qc'⟩ = t := ⟨_, rfl⟩
        have HT := Lib.hid ht
        have LATER : ∀ j u, wr.cell? ⟨b', j, none⟩ = some u → (wr.alloc (.cells #[.int .i64 qa, .int .i64 qb, .slice aqc qc.length cqc] 72)).cell? ⟨b', j, none⟩ = some u := fun j u h => cell_al _ h
        replace e0 := LATER _ _ e0
        replace e1 := LATER _ _ e1
        replace e2 := LATER _ _ e2
        clear LATER
        have C : Hid (Calls Try.prog 50 #[.agg #[.int .i64 qa, .int .i64 qb, .slice aqc qc.length cqc], .agg #[.int .i64 qa', .int .i64 qb', .slice aqc' qc'.length cqc']] ((wr.alloc (.cells #[.int .i64 qa, .int .i64 qb, .slice aqc qc.length cqc] 72)).alloc (.cells #[.int .i64 qa', .int .i64 qb', .slice aqc' qc'.length cqc'] 72)) fun e w' => e = .returned (.bool t) ∧ Below ((wr.alloc (.cells #[.int .i64 qa, .int .i64 qb, .slice aqc qc.length cqc] 72)).alloc (.cells #[.int .i64 qa', .int .i64 qb', .slice aqc' qc'.length cqc'] 72)).heap.size ((wr.alloc (.cells #[.int .i64 qa, .int .i64 qb, .slice aqc qc.length cqc] 72)).alloc (.cells #[.int .i64 qa', .int .i64 qb', .slice aqc' qc'.length cqc'] 72)) w') := by
          unfold Hid
          have BZ : Below wr.heap.size wr ((wr.alloc (.cells #[.int .i64 qa, .int .i64 qb, .slice aqc qc.length cqc] 72)).alloc (.cells #[.int .i64 qa', .int .i64 qb', .slice aqc' qc'.length cqc'] 72)) := (((Below.refl _ _).alloc (Nat.le_refl _) _).alloc (by simp) _)
          rw [← ht]; exact sameChannel_core qa qb qc (.slice aqc qc.length cqc) qa' qb' qc' (.slice aqc' qc'.length cqc') _ (hqc.below BZ) (hqc'.below BZ)
        have hbz : (wr.alloc (.cells #[.int .i64 qa, .int .i64 qb, .slice aqc qc.length cqc] 72)).heap.size = wr.heap.size + 1 := by simp
        clear hc hc' ht hlt hx hy hqc hqc'
        go_wp2_with fail
        refine C.out.mono ?_
        rintro e W1 ⟨rfl, b1⟩
        have HB1 : Hid (Below w.heap.size w W1) := ((HB.out.alloc HB.out.size _).alloc (by have := HB.out.size; simp; omega) _).trans (b1.mono (by have := HB.out.size; simp; omega))
        clear b1 C
        cases t with
        | true =>
          go_wp2_with fail
          go_roundw
          case rel =>
            have Q : ERel sameChannel n xs ys w (.int .i64 ((j : Int) + 1)) W1 := ERel.next HX.out HXS.out HYS.out HT.out HA.out HB1.out
            first | exact Q | ((repeat apply Exists.intro); exact ⟨Q, rfl⟩)
          case measure => have := HX.out; simp [intOf]; omega
        | false =>
          have HF : Hid (eqB sameChannel xs ys = false) := eqB_el HXS.out HYS.out HT.out
          go_wp2_with fail
          go_ret
          exact ⟨by rw [HF.out]; rfl, HB1.out⟩
      · have hjI : ¬ (j : Int) < (n : Int) := by omega
        have HF : Hid (eqB sameChannel xs ys = true) := eqB_ok HN.out HN'.out HJ.out hlt HA.out
        go_wp2_with fail
        go_ret
        exact ⟨by rw [HF.out]; rfl, HB.out⟩
  · have HF : Hid (eqB sameChannel xs ys = false) := eqB_len HN.out HN'.out hnm
    have hnmB : ((n : Int) == (m : Int)) = false := by rw [beq_eq_false_iff_ne]; omega
    have hnmC : ((n : Int) != (m : Int)) = true := by rw [bne_iff_ne]; omega
    go_enter Try.func49, Try.ntmps49
    go_wp2_with fail
    go_ret
    exact ⟨by rw [HF.out]; rfl, Below.refl _ _⟩
end Go.Proofs.Ytchlgihanogeeaa
