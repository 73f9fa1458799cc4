/-
  What the program's Right answers of Module. Each statement bears its own conditions.
-/
import Derived.Test.YtchlgihanogeeaaR5
import Derived.Test.YtchlgihanogeeaaR4
namespace Go.Proofs.Ytchlgihanogeeaa
open Go.RowKit
set_option linter.unusedVariables false
set_option linter.unusedSimpArgs false
def rightModule (x : MModule) : Bool := nameB x.qa && inB x.qd 0 7 && allB 16 rightPartition x.qb && allB 8 rightSchedule x.qc && allB 32 rightChannel x.qe && allB 32 rightLink x.qf && allB 32 rightRule x.qg
set_option maxRecDepth 100000 in
set_option maxHeartbeats 4000000 in
theorem rightModule_core (qa : ByteArray) (qb : List MPartition) (qc : List MSchedule) (qd : Int) (qe : List MChannel) (qf : List MLink) (qg : List MRule) (vqb vqc vqe vqf vqg : Value) (w : World) (hsqa : qa.size ≤ maxLen) (hqb : Row w 13 (RPartition w) vqb qb) (hqc : Row w 3 (RSchedule w) vqc qc) (hqe : Row w 3 (RChannel w) vqe qe) (hqf : Row w 3 RLink vqf qf) (hqg : Row w 3 RRule vqg qg) :
    Calls Try.prog 11 #[.agg #[.string qa, vqb, vqc, .int .i64 qd, vqe, vqf, vqg]] w fun e w' => e = .returned (.bool (rightModule ⟨qa, qb, qc, qd, qe, qf, qg⟩)) ∧ Below w.heap.size w w' := by
  obtain ⟨t0, h0⟩ : ∃ t : Bool, nameB qa = t := ⟨_, rfl⟩
  obtain ⟨t1, h1⟩ : ∃ t : Bool, inB qd 0 7 = t := ⟨_, rfl⟩
  obtain ⟨t2, h2⟩ : ∃ t : Bool, allB 16 rightPartition qb = t := ⟨_, rfl⟩
  obtain ⟨t3, h3⟩ : ∃ t : Bool, allB 8 rightSchedule qc = t := ⟨_, rfl⟩
  obtain ⟨t4, h4⟩ : ∃ t : Bool, allB 32 rightChannel qe = t := ⟨_, rfl⟩
  obtain ⟨t5, h5⟩ : ∃ t : Bool, allB 32 rightLink qf = t := ⟨_, rfl⟩
  obtain ⟨t6, h6⟩ : ∃ t : Bool, allB 32 rightRule qg = t := ⟨_, rfl⟩
  have HR : Hid (rightModule ⟨qa, qb, qc, qd, qe, qf, qg⟩ = (t0 && t1 && t2 && t3 && t4 && t5 && t6)) := by unfold Hid rightModule; dsimp only; rw [h0, h1, h2, h3, h4, h5, h6]
  have C0 : Hid (∀ W, Calls Try.prog 8 #[.string qa] W fun e w' => e = .returned (.bool t0) ∧ w' = W) := fun W => by rw [← h0]; exact name_any qa W hsqa
  have C1 : Hid (∀ W, Calls Try.prog 28 #[.int .i64 qd, .int .i64 0, .int .i64 7] W fun e w' => e = .returned (.bool t1) ∧ w' = W) := fun W => by rw [← h1]; exact within_any qd _ _ W
  have C2 : Hid (∀ W, Below w.heap.size w W → Calls Try.prog 29 #[vqb, .int .i64 16, .func (.func 30) #[] #[]] W fun e w' => e = .returned (.bool t2) ∧ Below W.heap.size W w') := fun W hB => by rw [← h2]; exact allPartition_any vqb qb 16 W (hqb.keep hB (fun _ _ h => h.below hB))
  have C3 : Hid (∀ W, Below w.heap.size w W → Calls Try.prog 31 #[vqc, .int .i64 8, .func (.func 32) #[] #[]] W fun e w' => e = .returned (.bool t3) ∧ Below W.heap.size W w') := fun W hB => by rw [← h3]; exact allSchedule_any vqc qc 8 W (hqc.keep hB (fun _ _ h => h.below hB))
  have C4 : Hid (∀ W, Below w.heap.size w W → Calls Try.prog 33 #[vqe, .int .i64 32, .func (.func 34) #[] #[]] W fun e w' => e = .returned (.bool t4) ∧ Below W.heap.size W w') := fun W hB => by rw [← h4]; exact allChannel_any vqe qe 32 W (hqe.keep hB (fun _ _ h => h.below hB))
  have C5 : Hid (∀ W, Below w.heap.size w W → Calls Try.prog 35 #[vqf, .int .i64 32, .func (.func 36) #[] #[]] W fun e w' => e = .returned (.bool t5) ∧ Below W.heap.size W w') := fun W hB => by rw [← h5]; exact allLink_any vqf qf 32 W (hqf.below hB)
  have C6 : Hid (∀ W, Below w.heap.size w W → Calls Try.prog 37 #[vqg, .int .i64 32, .func (.func 38) #[] #[]] W fun e w' => e = .returned (.bool t6) ∧ Below W.heap.size W w') := fun W hB => by rw [← h6]; exact allRule_any vqg qg 32 W (hqg.below hB)
  clear h0 h1 h2 h3 h4 h5 h6 hsqa hqb hqc hqe hqf hqg
  cases t0 with
  | false =>
    go_enter Try.func11, Try.ntmps11
    go_wp2_with fail
    obtain ⟨W0, hW0⟩ : ∃ W0, w.alloc (.cells #[.string qa, vqb, vqc, .int .i64 qd, vqe, vqf, vqg] 30) = W0 := ⟨_, rfl⟩
    have d0 : W0.cell? ⟨w.heap.size, 0, none⟩ = some (.string qa) := by rw [← hW0, World.cell?_alloc_new]; rfl
    have d1 : W0.cell? ⟨w.heap.size, 1, none⟩ = some (vqb) := by rw [← hW0, World.cell?_alloc_new]; rfl
    have d2 : W0.cell? ⟨w.heap.size, 2, none⟩ = some (vqc) := by rw [← hW0, World.cell?_alloc_new]; rfl
    have d3 : W0.cell? ⟨w.heap.size, 3, none⟩ = some (.int .i64 qd) := by rw [← hW0, World.cell?_alloc_new]; rfl
    have d4 : W0.cell? ⟨w.heap.size, 4, none⟩ = some (vqe) := by rw [← hW0, World.cell?_alloc_new]; rfl
    have d5 : W0.cell? ⟨w.heap.size, 5, none⟩ = some (vqf) := by rw [← hW0, World.cell?_alloc_new]; rfl
    have d6 : W0.cell? ⟨w.heap.size, 6, none⟩ = some (vqg) := by rw [← hW0, World.cell?_alloc_new]; rfl
    have B0 : Hid (Below w.heap.size w W0) := by rw [← hW0]; exact (Below.refl _ _).alloc (Nat.le_refl _) _
    rw [hW0]
    clear hW0
    refine (C0.out _).mono ?_
    rintro e W ⟨rfl, h⟩
    have h := h.symm
    subst h
    go_wp2_with fail
    go_ret
    exact ⟨by rw [HR.out]; rfl, B0.out⟩
  | true =>
    cases t1 with
    | false =>
      go_enter Try.func11, Try.ntmps11
      go_wp2_with fail
      obtain ⟨W0, hW0⟩ : ∃ W0, w.alloc (.cells #[.string qa, vqb, vqc, .int .i64 qd, vqe, vqf, vqg] 30) = W0 := ⟨_, rfl⟩
      have d0 : W0.cell? ⟨w.heap.size, 0, none⟩ = some (.string qa) := by rw [← hW0, World.cell?_alloc_new]; rfl
      have d1 : W0.cell? ⟨w.heap.size, 1, none⟩ = some (vqb) := by rw [← hW0, World.cell?_alloc_new]; rfl
      have d2 : W0.cell? ⟨w.heap.size, 2, none⟩ = some (vqc) := by rw [← hW0, World.cell?_alloc_new]; rfl
      have d3 : W0.cell? ⟨w.heap.size, 3, none⟩ = some (.int .i64 qd) := by rw [← hW0, World.cell?_alloc_new]; rfl
      have d4 : W0.cell? ⟨w.heap.size, 4, none⟩ = some (vqe) := by rw [← hW0, World.cell?_alloc_new]; rfl
      have d5 : W0.cell? ⟨w.heap.size, 5, none⟩ = some (vqf) := by rw [← hW0, World.cell?_alloc_new]; rfl
      have d6 : W0.cell? ⟨w.heap.size, 6, none⟩ = some (vqg) := by rw [← hW0, World.cell?_alloc_new]; rfl
      have B0 : Hid (Below w.heap.size w W0) := by rw [← hW0]; exact (Below.refl _ _).alloc (Nat.le_refl _) _
      rw [hW0]
      clear hW0
      refine (C0.out _).mono ?_
      rintro e W ⟨rfl, h⟩
      have h := h.symm
      subst h
      go_wp2_with fail
      refine (C1.out _).mono ?_
      rintro e W ⟨rfl, h⟩
      have h := h.symm
      subst h
      go_wp2_with fail
      go_ret
      exact ⟨by rw [HR.out]; rfl, B0.out⟩
    | true =>
      cases t2 with
      | false =>
        go_enter Try.func11, Try.ntmps11
        go_wp2_with fail
        obtain ⟨W0, hW0⟩ : ∃ W0, w.alloc (.cells #[.string qa, vqb, vqc, .int .i64 qd, vqe, vqf, vqg] 30) = W0 := ⟨_, rfl⟩
        have d0 : W0.cell? ⟨w.heap.size, 0, none⟩ = some (.string qa) := by rw [← hW0, World.cell?_alloc_new]; rfl
        have d1 : W0.cell? ⟨w.heap.size, 1, none⟩ = some (vqb) := by rw [← hW0, World.cell?_alloc_new]; rfl
        have d2 : W0.cell? ⟨w.heap.size, 2, none⟩ = some (vqc) := by rw [← hW0, World.cell?_alloc_new]; rfl
        have d3 : W0.cell? ⟨w.heap.size, 3, none⟩ = some (.int .i64 qd) := by rw [← hW0, World.cell?_alloc_new]; rfl
        have d4 : W0.cell? ⟨w.heap.size, 4, none⟩ = some (vqe) := by rw [← hW0, World.cell?_alloc_new]; rfl
        have d5 : W0.cell? ⟨w.heap.size, 5, none⟩ = some (vqf) := by rw [← hW0, World.cell?_alloc_new]; rfl
        have d6 : W0.cell? ⟨w.heap.size, 6, none⟩ = some (vqg) := by rw [← hW0, World.cell?_alloc_new]; rfl
        have B0 : Hid (Below w.heap.size w W0) := by rw [← hW0]; exact (Below.refl _ _).alloc (Nat.le_refl _) _
        rw [hW0]
        clear hW0
        refine (C0.out _).mono ?_
        rintro e W ⟨rfl, h⟩
        have h := h.symm
        subst h
        go_wp2_with fail
        refine (C1.out _).mono ?_
        rintro e W ⟨rfl, h⟩
        have h := h.symm
        subst h
        go_wp2_with fail
        refine (C2.out _ B0.out).mono ?_
        rintro e W1 ⟨rfl, b⟩
        replace d0 := cell_later b d0
        replace d1 := cell_later b d1
        replace d2 := cell_later b d2
        replace d3 := cell_later b d3
        replace d4 := cell_later b d4
        replace d5 := cell_later b d5
        replace d6 := cell_later b d6
        have B1 : Hid (Below w.heap.size w W1) := B0.out.trans (b.mono B0.out.size)
        clear b
        go_wp2_with fail
        go_ret
        exact ⟨by rw [HR.out]; rfl, B1.out⟩
      | true =>
        cases t3 with
        | false =>
          go_enter Try.func11, Try.ntmps11
          go_wp2_with fail
          obtain ⟨W0, hW0⟩ : ∃ W0, w.alloc (.cells #[.string qa, vqb, vqc, .int .i64 qd, vqe, vqf, vqg] 30) = W0 := ⟨_, rfl⟩
          have d0 : W0.cell? ⟨w.heap.size, 0, none⟩ = some (.string qa) := by rw [← hW0, World.cell?_alloc_new]; rfl
          have d1 : W0.cell? ⟨w.heap.size, 1, none⟩ = some (vqb) := by rw [← hW0, World.cell?_alloc_new]; rfl
          have d2 : W0.cell? ⟨w.heap.size, 2, none⟩ = some (vqc) := by rw [← hW0, World.cell?_alloc_new]; rfl
          have d3 : W0.cell? ⟨w.heap.size, 3, none⟩ = some (.int .i64 qd) := by rw [← hW0, World.cell?_alloc_new]; rfl
          have d4 : W0.cell? ⟨w.heap.size, 4, none⟩ = some (vqe) := by rw [← hW0, World.cell?_alloc_new]; rfl
          have d5 : W0.cell? ⟨w.heap.size, 5, none⟩ = some (vqf) := by rw [← hW0, World.cell?_alloc_new]; rfl
          have d6 : W0.cell? ⟨w.heap.size, 6, none⟩ = some (vqg) := by rw [← hW0, World.cell?_alloc_new]; rfl
          have B0 : Hid (Below w.heap.size w W0) := by rw [← hW0]; exact (Below.refl _ _).alloc (Nat.le_refl _) _
          rw [hW0]
          clear hW0
          refine (C0.out _).mono ?_
          rintro e W ⟨rfl, h⟩
          have h := h.symm
          subst h
          go_wp2_with fail
          refine (C1.out _).mono ?_
          rintro e W ⟨rfl, h⟩
          have h := h.symm
          subst h
          go_wp2_with fail
          refine (C2.out _ B0.out).mono ?_
          rintro e W1 ⟨rfl, b⟩
          replace d0 := cell_later b d0
          replace d1 := cell_later b d1
          replace d2 := cell_later b d2
          replace d3 := cell_later b d3
          replace d4 := cell_later b d4
          replace d5 := cell_later b d5
          replace d6 := cell_later b d6
          have B1 : Hid (Below w.heap.size w W1) := B0.out.trans (b.mono B0.out.size)
          clear b
          go_wp2_with fail
          refine (C3.out _ B1.out).mono ?_
          rintro e W2 ⟨rfl, b⟩
          replace d0 := cell_later b d0
          replace d1 := cell_later b d1
          replace d2 := cell_later b d2
          replace d3 := cell_later b d3
          replace d4 := cell_later b d4
          replace d5 := cell_later b d5
          replace d6 := cell_later b d6
          have B2 : Hid (Below w.heap.size w W2) := B1.out.trans (b.mono B1.out.size)
          clear b
          go_wp2_with fail
          go_ret
          exact ⟨by rw [HR.out]; rfl, B2.out⟩
        | true =>
          cases t4 with
          | false =>
            go_enter Try.func11, Try.ntmps11
            go_wp2_with fail
            obtain ⟨W0, hW0⟩ : ∃ W0, w.alloc (.cells #[.string qa, vqb, vqc, .int .i64 qd, vqe, vqf, vqg] 30) = W0 := ⟨_, rfl⟩
            have d0 : W0.cell? ⟨w.heap.size, 0, none⟩ = some (.string qa) := by rw [← hW0, World.cell?_alloc_new]; rfl
            have d1 : W0.cell? ⟨w.heap.size, 1, none⟩ = some (vqb) := by rw [← hW0, World.cell?_alloc_new]; rfl
            have d2 : W0.cell? ⟨w.heap.size, 2, none⟩ = some (vqc) := by rw [← hW0, World.cell?_alloc_new]; rfl
            have d3 : W0.cell? ⟨w.heap.size, 3, none⟩ = some (.int .i64 qd) := by rw [← hW0, World.cell?_alloc_new]; rfl
            have d4 : W0.cell? ⟨w.heap.size, 4, none⟩ = some (vqe) := by rw [← hW0, World.cell?_alloc_new]; rfl
            have d5 : W0.cell? ⟨w.heap.size, 5, none⟩ = some (vqf) := by rw [← hW0, World.cell?_alloc_new]; rfl
            have d6 : W0.cell? ⟨w.heap.size, 6, none⟩ = some (vqg) := by rw [← hW0, World.cell?_alloc_new]; rfl
            have B0 : Hid (Below w.heap.size w W0) := by rw [← hW0]; exact (Below.refl _ _).alloc (Nat.le_refl _) _
            rw [hW0]
            clear hW0
            refine (C0.out _).mono ?_
            rintro e W ⟨rfl, h⟩
            have h := h.symm
            subst h
            go_wp2_with fail
            refine (C1.out _).mono ?_
            rintro e W ⟨rfl, h⟩
            have h := h.symm
            subst h
            go_wp2_with fail
            refine (C2.out _ B0.out).mono ?_
            rintro e W1 ⟨rfl, b⟩
            replace d0 := cell_later b d0
            replace d1 := cell_later b d1
            replace d2 := cell_later b d2
            replace d3 := cell_later b d3
            replace d4 := cell_later b d4
            replace d5 := cell_later b d5
            replace d6 := cell_later b d6
            have B1 : Hid (Below w.heap.size w W1) := B0.out.trans (b.mono B0.out.size)
            clear b
            go_wp2_with fail
            refine (C3.out _ B1.out).mono ?_
            rintro e W2 ⟨rfl, b⟩
            replace d0 := cell_later b d0
            replace d1 := cell_later b d1
            replace d2 := cell_later b d2
            replace d3 := cell_later b d3
            replace d4 := cell_later b d4
            replace d5 := cell_later b d5
            replace d6 := cell_later b d6
            have B2 : Hid (Below w.heap.size w W2) := B1.out.trans (b.mono B1.out.size)
            clear b
            go_wp2_with fail
            refine (C4.out _ B2.out).mono ?_
            rintro e W3 ⟨rfl, b⟩
            replace d0 := cell_later b d0
            replace d1 := cell_later b d1
            replace d2 := cell_later b d2
            replace d3 := cell_later b d3
            replace d4 := cell_later b d4
            replace d5 := cell_later b d5
            replace d6 := cell_later b d6
            have B3 : Hid (Below w.heap.size w W3) := B2.out.trans (b.mono B2.out.size)
            clear b
            go_wp2_with fail
            go_ret
            exact ⟨by rw [HR.out]; rfl, B3.out⟩
          | true =>
            cases t5 with
            | false =>
              go_enter Try.func11, Try.ntmps11
              go_wp2_with fail
              obtain ⟨W0, hW0⟩ : ∃ W0, w.alloc (.cells #[.string qa, vqb, vqc, .int .i64 qd, vqe, vqf, vqg] 30) = W0 := ⟨_, rfl⟩
              have d0 : W0.cell? ⟨w.heap.size, 0, none⟩ = some (.string qa) := by rw [← hW0, World.cell?_alloc_new]; rfl
              have d1 : W0.cell? ⟨w.heap.size, 1, none⟩ = some (vqb) := by rw [← hW0, World.cell?_alloc_new]; rfl
              have d2 : W0.cell? ⟨w.heap.size, 2, none⟩ = some (vqc) := by rw [← hW0, World.cell?_alloc_new]; rfl
              have d3 : W0.cell? ⟨w.heap.size, 3, none⟩ = some (.int .i64 qd) := by rw [← hW0, World.cell?_alloc_new]; rfl
              have d4 : W0.cell? ⟨w.heap.size, 4, none⟩ = some (vqe) := by rw [← hW0, World.cell?_alloc_new]; rfl
              have d5 : W0.cell? ⟨w.heap.size, 5, none⟩ = some (vqf) := by rw [← hW0, World.cell?_alloc_new]; rfl
              have d6 : W0.cell? ⟨w.heap.size, 6, none⟩ = some (vqg) := by rw [← hW0, World.cell?_alloc_new]; rfl
              have B0 : Hid (Below w.heap.size w W0) := by rw [← hW0]; exact (Below.refl _ _).alloc (Nat.le_refl _) _
              rw [hW0]
              clear hW0
              refine (C0.out _).mono ?_
              rintro e W ⟨rfl, h⟩
              have h := h.symm
              subst h
              go_wp2_with fail
              refine (C1.out _).mono ?_
              rintro e W ⟨rfl, h⟩
              have h := h.symm
              subst h
              go_wp2_with fail
              refine (C2.out _ B0.out).mono ?_
              rintro e W1 ⟨rfl, b⟩
              replace d0 := cell_later b d0
              replace d1 := cell_later b d1
              replace d2 := cell_later b d2
              replace d3 := cell_later b d3
              replace d4 := cell_later b d4
              replace d5 := cell_later b d5
              replace d6 := cell_later b d6
              have B1 : Hid (Below w.heap.size w W1) := B0.out.trans (b.mono B0.out.size)
              clear b
              go_wp2_with fail
              refine (C3.out _ B1.out).mono ?_
              rintro e W2 ⟨rfl, b⟩
              replace d0 := cell_later b d0
              replace d1 := cell_later b d1
              replace d2 := cell_later b d2
              replace d3 := cell_later b d3
              replace d4 := cell_later b d4
              replace d5 := cell_later b d5
              replace d6 := cell_later b d6
              have B2 : Hid (Below w.heap.size w W2) := B1.out.trans (b.mono B1.out.size)
              clear b
              go_wp2_with fail
              refine (C4.out _ B2.out).mono ?_
              rintro e W3 ⟨rfl, b⟩
              replace d0 := cell_later b d0
              replace d1 := cell_later b d1
              replace d2 := cell_later b d2
              replace d3 := cell_later b d3
              replace d4 := cell_later b d4
              replace d5 := cell_later b d5
              replace d6 := cell_later b d6
              have B3 : Hid (Below w.heap.size w W3) := B2.out.trans (b.mono B2.out.size)
              clear b
              go_wp2_with fail
              refine (C5.out _ B3.out).mono ?_
              rintro e W4 ⟨rfl, b⟩
              replace d0 := cell_later b d0
              replace d1 := cell_later b d1
              replace d2 := cell_later b d2
              replace d3 := cell_later b d3
              replace d4 := cell_later b d4
              replace d5 := cell_later b d5
              replace d6 := cell_later b d6
              have B4 : Hid (Below w.heap.size w W4) := B3.out.trans (b.mono B3.out.size)
              clear b
              go_wp2_with fail
              go_ret
              exact ⟨by rw [HR.out]; rfl, B4.out⟩
            | true =>
              cases t6 with
              | false =>
                go_enter Try.func11, Try.ntmps11
                go_wp2_with fail
                obtain ⟨W0, hW0⟩ : ∃ W0, w.alloc (.cells #[.string qa, vqb, vqc, .int .i64 qd, vqe, vqf, vqg] 30) = W0 := ⟨_, rfl⟩
                have d0 : W0.cell? ⟨w.heap.size, 0, none⟩ = some (.string qa) := by rw [← hW0, World.cell?_alloc_new]; rfl
                have d1 : W0.cell? ⟨w.heap.size, 1, none⟩ = some (vqb) := by rw [← hW0, World.cell?_alloc_new]; rfl
                have d2 : W0.cell? ⟨w.heap.size, 2, none⟩ = some (vqc) := by rw [← hW0, World.cell?_alloc_new]; rfl
                have d3 : W0.cell? ⟨w.heap.size, 3, none⟩ = some (.int .i64 qd) := by rw [← hW0, World.cell?_alloc_new]; rfl
                have d4 : W0.cell? ⟨w.heap.size, 4, none⟩ = some (vqe) := by rw [← hW0, World.cell?_alloc_new]; rfl
                have d5 : W0.cell? ⟨w.heap.size, 5, none⟩ = some (vqf) := by rw [← hW0, World.cell?_alloc_new]; rfl
                have d6 : W0.cell? ⟨w.heap.size, 6, none⟩ = some (vqg) := by rw [← hW0, World.cell?_alloc_new]; rfl
                have B0 : Hid (Below w.heap.size w W0) := by rw [← hW0]; exact (Below.refl _ _).alloc (Nat.le_refl _) _
                rw [hW0]
                clear hW0
                refine (C0.out _).mono ?_
                rintro e W ⟨rfl, h⟩
                have h := h.symm
                subst h
                go_wp2_with fail
                refine (C1.out _).mono ?_
                rintro e W ⟨rfl, h⟩
                have h := h.symm
                subst h
                go_wp2_with fail
                refine (C2.out _ B0.out).mono ?_
                rintro e W1 ⟨rfl, b⟩
                replace d0 := cell_later b d0
                replace d1 := cell_later b d1
                replace d2 := cell_later b d2
                replace d3 := cell_later b d3
                replace d4 := cell_later b d4
                replace d5 := cell_later b d5
                replace d6 := cell_later b d6
                have B1 : Hid (Below w.heap.size w W1) := B0.out.trans (b.mono B0.out.size)
                clear b
                go_wp2_with fail
                refine (C3.out _ B1.out).mono ?_
                rintro e W2 ⟨rfl, b⟩
                replace d0 := cell_later b d0
                replace d1 := cell_later b d1
                replace d2 := cell_later b d2
                replace d3 := cell_later b d3
                replace d4 := cell_later b d4
                replace d5 := cell_later b d5
                replace d6 := cell_later b d6
                have B2 : Hid (Below w.heap.size w W2) := B1.out.trans (b.mono B1.out.size)
                clear b
                go_wp2_with fail
                refine (C4.out _ B2.out).mono ?_
                rintro e W3 ⟨rfl, b⟩
                replace d0 := cell_later b d0
                replace d1 := cell_later b d1
                replace d2 := cell_later b d2
                replace d3 := cell_later b d3
                replace d4 := cell_later b d4
                replace d5 := cell_later b d5
                replace d6 := cell_later b d6
                have B3 : Hid (Below w.heap.size w W3) := B2.out.trans (b.mono B2.out.size)
                clear b
                go_wp2_with fail
                refine (C5.out _ B3.out).mono ?_
                rintro e W4 ⟨rfl, b⟩
                replace d0 := cell_later b d0
                replace d1 := cell_later b d1
                replace d2 := cell_later b d2
                replace d3 := cell_later b d3
                replace d4 := cell_later b d4
                replace d5 := cell_later b d5
                replace d6 := cell_later b d6
                have B4 : Hid (Below w.heap.size w W4) := B3.out.trans (b.mono B3.out.size)
                clear b
                go_wp2_with fail
                refine (C6.out _ B4.out).mono ?_
                rintro e W5 ⟨rfl, b⟩
                replace d0 := cell_later b d0
                replace d1 := cell_later b d1
                replace d2 := cell_later b d2
                replace d3 := cell_later b d3
                replace d4 := cell_later b d4
                replace d5 := cell_later b d5
                replace d6 := cell_later b d6
                have B5 : Hid (Below w.heap.size w W5) := B4.out.trans (b.mono B4.out.size)
                clear b
                go_wp2_with fail
                go_ret
                exact ⟨by rw [HR.out]; rfl, B5.out⟩
              | true =>
                go_enter Try.func11, Try.ntmps11
                go_wp2_with fail
                obtain ⟨W0, hW0⟩ : ∃ W0, w.alloc (.cells #[.string qa, vqb, vqc, .int .i64 qd, vqe, vqf, vqg] 30) = W0 := ⟨_, rfl⟩
                have d0 : W0.cell? ⟨w.heap.size, 0, none⟩ = some (.string qa) := by rw [← hW0, World.cell?_alloc_new]; rfl
                have d1 : W0.cell? ⟨w.heap.size, 1, none⟩ = some (vqb) := by rw [← hW0, World.cell?_alloc_new]; rfl
                have d2 : W0.cell? ⟨w.heap.size, 2, none⟩ = some (vqc) := by rw [← hW0, World.cell?_alloc_new]; rfl
                have d3 : W0.cell? ⟨w.heap.size, 3, none⟩ = some (.int .i64 qd) := by rw [← hW0, World.cell?_alloc_new]; rfl
                have d4 : W0.cell? ⟨w.heap.size, 4, none⟩ = some (vqe) := by rw [← hW0, World.cell?_alloc_new]; rfl
                have d5 : W0.cell? ⟨w.heap.size, 5, none⟩ = some (vqf) := by rw [← hW0, World.cell?_alloc_new]; rfl
                have d6 : W0.cell? ⟨w.heap.size, 6, none⟩ = some (vqg) := by rw [← hW0, World.cell?_alloc_new]; rfl
                have B0 : Hid (Below w.heap.size w W0) := by rw [← hW0]; exact (Below.refl _ _).alloc (Nat.le_refl _) _
                rw [hW0]
                clear hW0
                refine (C0.out _).mono ?_
                rintro e W ⟨rfl, h⟩
                have h := h.symm
                subst h
                go_wp2_with fail
                refine (C1.out _).mono ?_
                rintro e W ⟨rfl, h⟩
                have h := h.symm
                subst h
                go_wp2_with fail
                refine (C2.out _ B0.out).mono ?_
                rintro e W1 ⟨rfl, b⟩
                replace d0 := cell_later b d0
                replace d1 := cell_later b d1
                replace d2 := cell_later b d2
                replace d3 := cell_later b d3
                replace d4 := cell_later b d4
                replace d5 := cell_later b d5
                replace d6 := cell_later b d6
                have B1 : Hid (Below w.heap.size w W1) := B0.out.trans (b.mono B0.out.size)
                clear b
                go_wp2_with fail
                refine (C3.out _ B1.out).mono ?_
                rintro e W2 ⟨rfl, b⟩
                replace d0 := cell_later b d0
                replace d1 := cell_later b d1
                replace d2 := cell_later b d2
                replace d3 := cell_later b d3
                replace d4 := cell_later b d4
                replace d5 := cell_later b d5
                replace d6 := cell_later b d6
                have B2 : Hid (Below w.heap.size w W2) := B1.out.trans (b.mono B1.out.size)
                clear b
                go_wp2_with fail
                refine (C4.out _ B2.out).mono ?_
                rintro e W3 ⟨rfl, b⟩
                replace d0 := cell_later b d0
                replace d1 := cell_later b d1
                replace d2 := cell_later b d2
                replace d3 := cell_later b d3
                replace d4 := cell_later b d4
                replace d5 := cell_later b d5
                replace d6 := cell_later b d6
                have B3 : Hid (Below w.heap.size w W3) := B2.out.trans (b.mono B2.out.size)
                clear b
                go_wp2_with fail
                refine (C5.out _ B3.out).mono ?_
                rintro e W4 ⟨rfl, b⟩
                replace d0 := cell_later b d0
                replace d1 := cell_later b d1
                replace d2 := cell_later b d2
                replace d3 := cell_later b d3
                replace d4 := cell_later b d4
                replace d5 := cell_later b d5
                replace d6 := cell_later b d6
                have B4 : Hid (Below w.heap.size w W4) := B3.out.trans (b.mono B3.out.size)
                clear b
                go_wp2_with fail
                refine (C6.out _ B4.out).mono ?_
                rintro e W5 ⟨rfl, b⟩
                replace d0 := cell_later b d0
                replace d1 := cell_later b d1
                replace d2 := cell_later b d2
                replace d3 := cell_later b d3
                replace d4 := cell_later b d4
                replace d5 := cell_later b d5
                replace d6 := cell_later b d6
                have B5 : Hid (Below w.heap.size w W5) := B4.out.trans (b.mono B4.out.size)
                clear b
                go_wp2_with fail
                go_ret
                exact ⟨by rw [HR.out]; rfl, B5.out⟩
end Go.Proofs.Ytchlgihanogeeaa
