/-
  What the program's Right answers of Schedule, Channel. Each statement bears its own conditions.
-/
import Derived.Test.YtchlgihanogeeaaR3
namespace Go.Proofs.Ytchlgihanogeeaa
open Go.RowKit
set_option linter.unusedVariables false
set_option linter.unusedSimpArgs false
def rightSchedule (x : MSchedule) : Bool := nameB x.qa && inB x.qb 1 1048576 && allB 64 rightWindow x.qc
set_option maxRecDepth 100000 in
set_option maxHeartbeats 4000000 in
theorem rightSchedule_core (qa : ByteArray) (qb : Int) (qc : List MWindow) (vqc : Value) (w : World) (hsqa : qa.size ≤ maxLen) (hqc : Row w 3 RWindow vqc qc) :
    Calls Try.prog 32 #[.agg #[.string qa, .int .i64 qb, vqc]] w fun e w' => e = .returned (.bool (rightSchedule ⟨qa, qb, qc⟩)) ∧ Below w.heap.size w w' := by
  obtain ⟨t0, h0⟩ : ∃ t : Bool, nameB qa = t := ⟨_, rfl⟩
  obtain ⟨t1, h1⟩ : ∃ t : Bool, inB qb 1 1048576 = t := ⟨_, rfl⟩
  obtain ⟨t2, h2⟩ : ∃ t : Bool, allB 64 rightWindow qc = t := ⟨_, rfl⟩
  have HR : Hid (rightSchedule ⟨qa, qb, qc⟩ = (t0 && t1 && t2)) := by unfold Hid rightSchedule; dsimp only; rw [h0, h1, h2]
  have C0 : Hid (∀ W, Calls Try.prog 8 #[.string qa] W fun e w' => e = .returned (.bool t0) ∧ w' = W) := fun W => by rw [← h0]; exact name_any qa W hsqa
  have C1 : Hid (∀ W, Calls Try.prog 28 #[.int .i64 qb, .int .i64 1, .int .i64 1048576] W fun e w' => e = .returned (.bool t1) ∧ w' = W) := fun W => by rw [← h1]; exact within_any qb _ _ W
  have C2 : Hid (∀ W, Below w.heap.size w W → Calls Try.prog 99 #[vqc, .int .i64 64, .func (.func 100) #[] #[]] W fun e w' => e = .returned (.bool t2) ∧ Below W.heap.size W w') := fun W hB => by rw [← h2]; exact allWindow_any vqc qc 64 W (hqc.below hB)
  clear h0 h1 h2 hsqa hqc
  cases t0 with
  | false =>
    go_enter Try.func32, Try.ntmps32
    go_wp2_with fail
    obtain ⟨W0, hW0⟩ : ∃ W0, w.alloc (.cells #[.string qa, .int .i64 qb, vqc] 65) = W0 := ⟨_, rfl⟩
    have d0 : W0.cell? ⟨w.heap.size, 0, none⟩ = some (.string qa) := by rw [← hW0, World.cell?_alloc_new]; rfl
    have d1 : W0.cell? ⟨w.heap.size, 1, none⟩ = some (.int .i64 qb) := by rw [← hW0, World.cell?_alloc_new]; rfl
    have d2 : W0.cell? ⟨w.heap.size, 2, none⟩ = some (vqc) := by rw [← hW0, World.cell?_alloc_new]; rfl
    have B0 : Hid (Below w.heap.size w W0) := by rw [← hW0]; exact (Below.refl _ _).alloc (Nat.le_refl _) _
    rw [hW0]
    clear hW0
    refine (C0.out _).mono ?_
    rintro e W ⟨rfl, h⟩
    have h := h.symm
    subst h
    go_wp2_with fail
    go_ret
    exact ⟨by rw [HR.out]; rfl, B0.out⟩
  | true =>
    cases t1 with
    | false =>
      go_enter Try.func32, Try.ntmps32
      go_wp2_with fail
      obtain ⟨W0, hW0⟩ : ∃ W0, w.alloc (.cells #[.string qa, .int .i64 qb, vqc] 65) = W0 := ⟨_, rfl⟩
      have d0 : W0.cell? ⟨w.heap.size, 0, none⟩ = some (.string qa) := by rw [← hW0, World.cell?_alloc_new]; rfl
      have d1 : W0.cell? ⟨w.heap.size, 1, none⟩ = some (.int .i64 qb) := by rw [← hW0, World.cell?_alloc_new]; rfl
      have d2 : W0.cell? ⟨w.heap.size, 2, none⟩ = some (vqc) := by rw [← hW0, World.cell?_alloc_new]; rfl
      have B0 : Hid (Below w.heap.size w W0) := by rw [← hW0]; exact (Below.refl _ _).alloc (Nat.le_refl _) _
      rw [hW0]
      clear hW0
      refine (C0.out _).mono ?_
      rintro e W ⟨rfl, h⟩
      have h := h.symm
      subst h
      go_wp2_with fail
      refine (C1.out _).mono ?_
      rintro e W ⟨rfl, h⟩
      have h := h.symm
      subst h
      go_wp2_with fail
      go_ret
      exact ⟨by rw [HR.out]; rfl, B0.out⟩
    | true =>
      cases t2 with
      | false =>
        go_enter Try.func32, Try.ntmps32
        go_wp2_with fail
        obtain ⟨W0, hW0⟩ : ∃ W0, w.alloc (.cells #[.string qa, .int .i64 qb, vqc] 65) = W0 := ⟨_, rfl⟩
        have d0 : W0.cell? ⟨w.heap.size, 0, none⟩ = some (.string qa) := by rw [← hW0, World.cell?_alloc_new]; rfl
        have d1 : W0.cell? ⟨w.heap.size, 1, none⟩ = some (.int .i64 qb) := by rw [← hW0, World.cell?_alloc_new]; rfl
        have d2 : W0.cell? ⟨w.heap.size, 2, none⟩ = some (vqc) := by rw [← hW0, World.cell?_alloc_new]; rfl
        have B0 : Hid (Below w.heap.size w W0) := by rw [← hW0]; exact (Below.refl _ _).alloc (Nat.le_refl _) _
        rw [hW0]
        clear hW0
        refine (C0.out _).mono ?_
        rintro e W ⟨rfl, h⟩
        have h := h.symm
        subst h
        go_wp2_with fail
        refine (C1.out _).mono ?_
        rintro e W ⟨rfl, h⟩
        have h := h.symm
        subst h
        go_wp2_with fail
        refine (C2.out _ B0.out).mono ?_
        rintro e W1 ⟨rfl, b⟩
        replace d0 := cell_later b d0
        replace d1 := cell_later b d1
        replace d2 := cell_later b d2
        have B1 : Hid (Below w.heap.size w W1) := B0.out.trans (b.mono B0.out.size)
        clear b
        go_wp2_with fail
        go_ret
        exact ⟨by rw [HR.out]; rfl, B1.out⟩
      | true =>
        go_enter Try.func32, Try.ntmps32
        go_wp2_with fail
        obtain ⟨W0, hW0⟩ : ∃ W0, w.alloc (.cells #[.string qa, .int .i64 qb, vqc] 65) = W0 := ⟨_, rfl⟩
        have d0 : W0.cell? ⟨w.heap.size, 0, none⟩ = some (.string qa) := by rw [← hW0, World.cell?_alloc_new]; rfl
        have d1 : W0.cell? ⟨w.heap.size, 1, none⟩ = some (.int .i64 qb) := by rw [← hW0, World.cell?_alloc_new]; rfl
        have d2 : W0.cell? ⟨w.heap.size, 2, none⟩ = some (vqc) := by rw [← hW0, World.cell?_alloc_new]; rfl
        have B0 : Hid (Below w.heap.size w W0) := by rw [← hW0]; exact (Below.refl _ _).alloc (Nat.le_refl _) _
        rw [hW0]
        clear hW0
        refine (C0.out _).mono ?_
        rintro e W ⟨rfl, h⟩
        have h := h.symm
        subst h
        go_wp2_with fail
        refine (C1.out _).mono ?_
        rintro e W ⟨rfl, h⟩
        have h := h.symm
        subst h
        go_wp2_with fail
        refine (C2.out _ B0.out).mono ?_
        rintro e W1 ⟨rfl, b⟩
        replace d0 := cell_later b d0
        replace d1 := cell_later b d1
        replace d2 := cell_later b d2
        have B1 : Hid (Below w.heap.size w W1) := B0.out.trans (b.mono B0.out.size)
        clear b
        go_wp2_with fail
        go_ret
        exact ⟨by rw [HR.out]; rfl, B1.out⟩
structure AllScheduleRel (n : Nat) (xs : List MSchedule) (w : World) (v : Value) (wr : World) : Prop where
  ex : ∃ k : Nat, k ≤ n ∧ v = .int .i64 (k : Int) ∧ (∀ (j : Nat) y, xs[j]? = some y → j < k → rightSchedule y = true) ∧ Below w.heap.size w wr
set_option maxRecDepth 100000 in
set_option maxHeartbeats 4000000 in
theorem allSchedule_any (v : Value) (xs : List MSchedule) (most : Int) (w : World) (h : Row w 3 (RSchedule w) v xs) :
    Calls Try.prog 31 #[v, .int .i64 most, .func (.func 32) #[] #[]] w fun e w' => e = .returned (.bool (allB most rightSchedule xs)) ∧ Below w.heap.size w w' := by
  obtain ⟨a, cap, rfl, hm⟩ := h.form
  obtain ⟨n, hn⟩ : ∃ n, xs.length = n := ⟨_, rfl⟩
  rw [hn] at h hm ⊢
  have HN := Lib.hid hn
  have H := Lib.hid h
  unfold rowMax at hm
  clear hn h
  by_cases hgt : most < (n : Int)
  · have HR : Hid (allB most rightSchedule xs = false) := by unfold Hid allB; rw [HN.out, decide_eq_false (by omega)]; rfl
    go_enter Try.func31, Try.ntmps31
    go_wp2_with fail
    go_ret
    exact ⟨by rw [HR.out]; rfl, Below.refl _ _⟩
  · have hgt' : (n : Int) ≤ most := by omega
    have HR : Hid (allB most rightSchedule xs = xs.all rightSchedule) := by unfold Hid allB; rw [HN.out, decide_eq_true hgt']; rfl
    go_enter Try.func31, Try.ntmps31
    go_wp2_with fail
    go_loopw [15] (fun v wr => AllScheduleRel n xs w v wr) (fun v => fun _ => n - (intOf v).toNat)
    case atStart => exact ⟨⟨0, Nat.zero_le _, rfl, fun j y _ h => by omega, Below.refl _ _⟩⟩
    case round =>
      obtain ⟨⟨k, hk, rfl, hall, hb⟩⟩ := hrel
      have HK := Lib.hid hk
      have HA := Lib.hid hall
      have HB := Lib.hid hb
      clear hk hall hb
      by_cases hlt : k < n
      · have hkI : (k : Int) < (n : Int) := by omega
        have HX : Hid (k < n) := hlt
        obtain ⟨hnx, b, off, x, cs, rfl, hbl, hx, hR, _, hc⟩ := H.out.at_ k hlt
        clear hnx
        have HXS := Lib.hid hx
        replace hR : RSchedule wr x cs := hR.below HB.out
        obtain ⟨qa, qb, qc⟩ := x
        obtain ⟨vqc, rfl, hsqa, hqc⟩ := hR
        obtain ⟨aqc, cqc, rfl, hmqc⟩ := hqc.form
        clear hmqc
        have d0 : wr.cell? ⟨b, off + k * 3, none⟩ = some (.string qa) := cell_later HB.out (hc 0 _ rfl)
        have d1 : wr.cell? ⟨b, off + k * 3 + 1, none⟩ = some (.int .i64 qb) := cell_later HB.out (hc 1 _ rfl)
        have d2 : wr.cell? ⟨b, off + k * 3 + 2, none⟩ = some (.slice aqc qc.length cqc) := cell_later HB.out (hc 2 _ rfl)
        obtain ⟨t, ht⟩ : ∃ t, rightSchedule ⟨qa, qb, qc⟩ = t := ⟨_, rfl⟩
        have HT := Lib.hid ht
        have C : Hid (Calls Try.prog 32 #[.agg #[.string qa, .int .i64 qb, .slice aqc qc.length cqc]] (wr.alloc (.cells #[.string qa, .int .i64 qb, .slice aqc qc.length cqc] 65)) fun e w' => e = .returned (.bool t) ∧ Below (wr.alloc (.cells #[.string qa, .int .i64 qb, .slice aqc qc.length cqc] 65)).heap.size (wr.alloc (.cells #[.string qa, .int .i64 qb, .slice aqc qc.length cqc] 65)) w') := by
          unfold Hid
          rw [← ht]; exact rightSchedule_core qa qb qc (.slice aqc qc.length cqc) _ hsqa (hqc.alloc _)
        clear hc ht hlt hsqa hqc
        go_wp2_with fail
        refine C.out.mono ?_
        rintro e W1 ⟨rfl, b1⟩
        have HB1 : Hid (Below w.heap.size w W1) := (HB.out.alloc HB.out.size _).trans (b1.mono (by have := HB.out.size; simp; omega))
        clear b1 C
        cases t with
        | true =>
          go_wp2_with fail
          go_roundw
          case rel =>
            have Q : AllScheduleRel n xs w (.int .i64 ((k : Int) + 1)) W1 := ⟨⟨k + 1, HX.out, by go_num, fun j y hy hj => by
              by_cases e : j = k
              · subst e
                have e2 := HXS.out.symm.trans hy
                injection e2 with e2
                rw [← e2]; exact HT.out
              · exact HA.out j y hy (by omega), HB1.out⟩⟩
            first | exact Q | ((repeat apply Exists.intro); exact ⟨Q, rfl⟩)
          case measure => have := HX.out; simp [intOf]; omega
        | false =>
          have HF : Hid (xs.all rightSchedule = false) := all_false HXS.out HT.out
          go_wp2_with fail
          go_ret
          exact ⟨by rw [HR.out, HF.out]; rfl, HB1.out⟩
      · have hkI : ¬ (k : Int) < (n : Int) := by omega
        have HF : Hid (xs.all rightSchedule = true) := all_true fun j y hy => HA.out j y hy (by have h1 := (List.getElem?_eq_some_iff.1 hy).1; have := HN.out; have := HK.out; omega)
        go_wp2_with fail
        go_ret
        exact ⟨by rw [HR.out, HF.out]; rfl, HB.out⟩
def rightChannel (x : MChannel) : Bool := rightEnd ⟨x.qa, x.qb⟩ && allB 8 rightEnd x.qc
set_option maxRecDepth 100000 in
set_option maxHeartbeats 4000000 in
theorem rightChannel_core (qa : Int) (qb : Int) (qc : List MEnd) (vqc : Value) (w : World)  (hqc : Row w 2 REnd vqc qc) :
    Calls Try.prog 34 #[.agg #[.int .i64 qa, .int .i64 qb, vqc]] w fun e w' => e = .returned (.bool (rightChannel ⟨qa, qb, qc⟩)) ∧ Below w.heap.size w w' := by
  obtain ⟨t0, h0⟩ : ∃ t : Bool, rightEnd ⟨qa, qb⟩ = t := ⟨_, rfl⟩
  obtain ⟨t1, h1⟩ : ∃ t : Bool, allB 8 rightEnd qc = t := ⟨_, rfl⟩
  have HR : Hid (rightChannel ⟨qa, qb, qc⟩ = (t0 && t1)) := by unfold Hid rightChannel; dsimp only; rw [h0, h1]
  have C0 : Hid (∀ W, Calls Try.prog 101 #[.agg #[.int .i64 qa, .int .i64 qb]] W fun e w' => e = .returned (.bool t0) ∧ Below W.heap.size W w') := fun W => by rw [← h0]; exact rightEnd_core qa qb W
  have C1 : Hid (∀ W, Below w.heap.size w W → Calls Try.prog 102 #[vqc, .int .i64 8, .func (.func 101) #[] #[]] W fun e w' => e = .returned (.bool t1) ∧ Below W.heap.size W w') := fun W hB => by rw [← h1]; exact allEnd_any vqc qc 8 W (hqc.below hB)
  clear h0 h1 hqc
  cases t0 with
  | false =>
    go_enter Try.func34, Try.ntmps34
    go_wp2_with fail
    obtain ⟨W0, hW0⟩ : ∃ W0, w.alloc (.cells #[.int .i64 qa, .int .i64 qb, vqc] 72) = W0 := ⟨_, rfl⟩
    have d0 : W0.cell? ⟨w.heap.size, 0, none⟩ = some (.int .i64 qa) := by rw [← hW0, World.cell?_alloc_new]; rfl
    have d1 : W0.cell? ⟨w.heap.size, 1, none⟩ = some (.int .i64 qb) := by rw [← hW0, World.cell?_alloc_new]; rfl
    have d2 : W0.cell? ⟨w.heap.size, 2, none⟩ = some (vqc) := by rw [← hW0, World.cell?_alloc_new]; rfl
    have B0 : Hid (Below w.heap.size w W0) := by rw [← hW0]; exact (Below.refl _ _).alloc (Nat.le_refl _) _
    rw [hW0]
    clear hW0
    refine (C0.out _).mono ?_
    rintro e W1 ⟨rfl, b⟩
    replace d0 := cell_later b d0
    replace d1 := cell_later b d1
    replace d2 := cell_later b d2
    have B1 : Hid (Below w.heap.size w W1) := B0.out.trans (b.mono B0.out.size)
    clear b
    go_wp2_with fail
    go_ret
    exact ⟨by rw [HR.out]; rfl, B1.out⟩
  | true =>
    cases t1 with
    | false =>
      go_enter Try.func34, Try.ntmps34
      go_wp2_with fail
      obtain ⟨W0, hW0⟩ : ∃ W0, w.alloc (.cells #[.int .i64 qa, .int .i64 qb, vqc] 72) = W0 := ⟨_, rfl⟩
      have d0 : W0.cell? ⟨w.heap.size, 0, none⟩ = some (.int .i64 qa) := by rw [← hW0, World.cell?_alloc_new]; rfl
      have d1 : W0.cell? ⟨w.heap.size, 1, none⟩ = some (.int .i64 qb) := by rw [← hW0, World.cell?_alloc_new]; rfl
      have d2 : W0.cell? ⟨w.heap.size, 2, none⟩ = some (vqc) := by rw [← hW0, World.cell?_alloc_new]; rfl
      have B0 : Hid (Below w.heap.size w W0) := by rw [← hW0]; exact (Below.refl _ _).alloc (Nat.le_refl _) _
      rw [hW0]
      clear hW0
      refine (C0.out _).mono ?_
      rintro e W1 ⟨rfl, b⟩
      replace d0 := cell_later b d0
      replace d1 := cell_later b d1
      replace d2 := cell_later b d2
      have B1 : Hid (Below w.heap.size w W1) := B0.out.trans (b.mono B0.out.size)
      clear b
      go_wp2_with fail
      refine (C1.out _ B1.out).mono ?_
      rintro e W2 ⟨rfl, b⟩
      replace d0 := cell_later b d0
      replace d1 := cell_later b d1
      replace d2 := cell_later b d2
      have B2 : Hid (Below w.heap.size w W2) := B1.out.trans (b.mono B1.out.size)
      clear b
      go_wp2_with fail
      go_ret
      exact ⟨by rw [HR.out]; rfl, B2.out⟩
    | true =>
      go_enter Try.func34, Try.ntmps34
      go_wp2_with fail
      obtain ⟨W0, hW0⟩ : ∃ W0, w.alloc (.cells #[.int .i64 qa, .int .i64 qb, vqc] 72) = W0 := ⟨_, rfl⟩
      have d0 : W0.cell? ⟨w.heap.size, 0, none⟩ = some (.int .i64 qa) := by rw [← hW0, World.cell?_alloc_new]; rfl
      have d1 : W0.cell? ⟨w.heap.size, 1, none⟩ = some (.int .i64 qb) := by rw [← hW0, World.cell?_alloc_new]; rfl
      have d2 : W0.cell? ⟨w.heap.size, 2, none⟩ = some (vqc) := by rw [← hW0, World.cell?_alloc_new]; rfl
      have B0 : Hid (Below w.heap.size w W0) := by rw [← hW0]; exact (Below.refl _ _).alloc (Nat.le_refl _) _
      rw [hW0]
      clear hW0
      refine (C0.out _).mono ?_
      rintro e W1 ⟨rfl, b⟩
      replace d0 := cell_later b d0
      replace d1 := cell_later b d1
      replace d2 := cell_later b d2
      have B1 : Hid (Below w.heap.size w W1) := B0.out.trans (b.mono B0.out.size)
      clear b
      go_wp2_with fail
      refine (C1.out _ B1.out).mono ?_
      rintro e W2 ⟨rfl, b⟩
      replace d0 := cell_later b d0
      replace d1 := cell_later b d1
      replace d2 := cell_later b d2
      have B2 : Hid (Below w.heap.size w W2) := B1.out.trans (b.mono B1.out.size)
      clear b
      go_wp2_with fail
      go_ret
      exact ⟨by rw [HR.out]; rfl, B2.out⟩
structure AllChannelRel (n : Nat) (xs : List MChannel) (w : World) (v : Value) (wr : World) : Prop where
  ex : ∃ k : Nat, k ≤ n ∧ v = .int .i64 (k : Int) ∧ (∀ (j : Nat) y, xs[j]? = some y → j < k → rightChannel y = true) ∧ Below w.heap.size w wr
set_option maxRecDepth 100000 in
set_option maxHeartbeats 4000000 in
theorem allChannel_any (v : Value) (xs : List MChannel) (most : Int) (w : World) (h : Row w 3 (RChannel w) v xs) :
    Calls Try.prog 33 #[v, .int .i64 most, .func (.func 34) #[] #[]] w fun e w' => e = .returned (.bool (allB most rightChannel xs)) ∧ Below w.heap.size w w' := by
  obtain ⟨a, cap, rfl, hm⟩ := h.form
  obtain ⟨n, hn⟩ : ∃ n, xs.length = n := ⟨_, rfl⟩
  rw [hn] at h hm ⊢
  have HN := Lib.hid hn
  have H := Lib.hid h
  unfold rowMax at hm
  clear hn h
  by_cases hgt : most < (n : Int)
  · have HR : Hid (allB most rightChannel xs = false) := by unfold Hid allB; rw [HN.out, decide_eq_false (by omega)]; rfl
    go_enter Try.func33, Try.ntmps33
    go_wp2_with fail
    go_ret
    exact ⟨by rw [HR.out]; rfl, Below.refl _ _⟩
  · have hgt' : (n : Int) ≤ most := by omega
    have HR : Hid (allB most rightChannel xs = xs.all rightChannel) := by unfold Hid allB; rw [HN.out, decide_eq_true hgt']; rfl
    go_enter Try.func33, Try.ntmps33
    go_wp2_with fail
    go_loopw [15] (fun v wr => AllChannelRel n xs w v wr) (fun v => fun _ => n - (intOf v).toNat)
    case atStart => exact ⟨⟨0, Nat.zero_le _, rfl, fun j y _ h => by omega, Below.refl _ _⟩⟩
    case round =>
      obtain ⟨⟨k, hk, rfl, hall, hb⟩⟩ := hrel
      have HK := Lib.hid hk
      have HA := Lib.hid hall
      have HB := Lib.hid hb
      clear hk hall hb
      by_cases hlt : k < n
      · have hkI : (k : Int) < (n : Int) := by omega
        have HX : Hid (k < n) := hlt
        obtain ⟨hnx, b, off, x, cs, rfl, hbl, hx, hR, _, hc⟩ := H.out.at_ k hlt
        clear hnx
        have HXS := Lib.hid hx
        replace hR : RChannel wr x cs := hR.below HB.out
        obtain ⟨qa, qb, qc⟩ := x
        obtain ⟨vqc, rfl, hqc⟩ := hR
        obtain ⟨aqc, cqc, rfl, hmqc⟩ := hqc.form
        clear hmqc
        have d0 : wr.cell? ⟨b, off + k * 3, none⟩ = some (.int .i64 qa) := cell_later HB.out (hc 0 _ rfl)
        have d1 : wr.cell? ⟨b, off + k * 3 + 1, none⟩ = some (.int .i64 qb) := cell_later HB.out (hc 1 _ rfl)
        have d2 : wr.cell? ⟨b, off + k * 3 + 2, none⟩ = some (.slice aqc qc.length cqc) := cell_later HB.out (hc 2 _ rfl)
        obtain ⟨t, ht⟩ : ∃ t, rightChannel ⟨qa, qb, qc⟩ = t := ⟨_, rfl⟩
        have HT := Lib.hid ht
        have C : Hid (Calls Try.prog 34 #[.agg #[.int .i64 qa, .int .i64 qb, .slice aqc qc.length cqc]] (wr.alloc (.cells #[.int .i64 qa, .int .i64 qb, .slice aqc qc.length cqc] 72)) fun e w' => e = .returned (.bool t) ∧ Below (wr.alloc (.cells #[.int .i64 qa, .int .i64 qb, .slice aqc qc.length cqc] 72)).heap.size (wr.alloc (.cells #[.int .i64 qa, .int .i64 qb, .slice aqc qc.length cqc] 72)) w') := by
          unfold Hid
          rw [← ht]; exact rightChannel_core qa qb qc (.slice aqc qc.length cqc) _  (hqc.alloc _)
        clear hc ht hlt  hqc
        go_wp2_with fail
        refine C.out.mono ?_
        rintro e W1 ⟨rfl, b1⟩
        have HB1 : Hid (Below w.heap.size w W1) := (HB.out.alloc HB.out.size _).trans (b1.mono (by have := HB.out.size; simp; omega))
        clear b1 C
        cases t with
        | true =>
          go_wp2_with fail
          go_roundw
          case rel =>
            have Q : AllChannelRel n xs w (.int .i64 ((k : Int) + 1)) W1 := ⟨⟨k + 1, HX.out, by go_num, fun j y hy hj => by
              by_cases e : j = k
              · subst e
                have e2 := HXS.out.symm.trans hy
                injection e2 with e2
                rw [← e2]; exact HT.out
              · exact HA.out j y hy (by omega), HB1.out⟩⟩
            first | exact Q | ((repeat apply Exists.intro); exact ⟨Q, rfl⟩)
          case measure => have := HX.out; simp [intOf]; omega
        | false =>
          have HF : Hid (xs.all rightChannel = false) := all_false HXS.out HT.out
          go_wp2_with fail
          go_ret
          exact ⟨by rw [HR.out, HF.out]; rfl, HB1.out⟩
      · have hkI : ¬ (k : Int) < (n : Int) := by omega
        have HF : Hid (xs.all rightChannel = true) := all_true fun j y hy => HA.out j y hy (by have h1 := (List.getElem?_eq_some_iff.1 hy).1; have := HN.out; have := HK.out; omega)
        go_wp2_with fail
        go_ret
        exact ⟨by rw [HR.out, HF.out]; rfl, HB.out⟩
end Go.Proofs.Ytchlgihanogeeaa
