/-
  What the program's Right answers of Partition. Each statement bears its own conditions.
-/
import Derived.Test.YtchlgihanogeeaaR1
import Derived.Test.YtchlgihanogeeaaR2
import Derived.Test.YtchlgihanogeeaaR3
namespace Go.Proofs.Ytchlgihanogeeaa
open Go.RowKit
set_option linter.unusedVariables false
set_option linter.unusedSimpArgs false
def rightPartition (x : MPartition) : Bool := nameB x.qa && inB x.qk 0 1000 && rightBudget ⟨x.ql, x.qm⟩ && allB 16 rightArea x.qb && allB 16 rightTask x.qc && allB 16 rightLock x.qd && allB 16 rightSema x.qe && allB 16 rightEvent x.qf && allB 16 rightBoard x.qg && allB 16 rightBuffer x.qh && allB 16 rightPort x.qi && allB 32 rightRule x.qj
set_option maxRecDepth 100000 in
set_option maxHeartbeats 4000000 in
theorem rightPartition_core (qa : ByteArray) (qb : List MArea) (qc : List MTask) (qd : List MLock) (qe : List MSema) (qf : List MEvent) (qg : List MBoard) (qh : List MBuffer) (qi : List MPort) (qj : List MRule) (qk : Int) (ql : Int) (qm : Int) (vqb vqc vqd vqe vqf vqg vqh vqi vqj : Value) (w : World) (hsqa : qa.size ≤ maxLen) (hqb : Row w 6 RArea vqb qb) (hqc : Row w 8 RTask vqc qc) (hqd : Row w 2 RLock vqd qd) (hqe : Row w 4 RSema vqe qe) (hqf : Row w 1 REvent vqf qf) (hqg : Row w 2 RBoard vqg qg) (hqh : Row w 4 RBuffer vqh qh) (hqi : Row w 6 RPort vqi qi) (hqj : Row w 3 RRule vqj qj) :
    Calls Try.prog 30 #[.agg #[.string qa, vqb, vqc, vqd, vqe, vqf, vqg, vqh, vqi, vqj, .int .i64 qk, .int .i64 ql, .int .i64 qm]] w fun e w' => e = .returned (.bool (rightPartition ⟨qa, qb, qc, qd, qe, qf, qg, qh, qi, qj, qk, ql, qm⟩)) ∧ Below w.heap.size w w' := by
  obtain ⟨t0, h0⟩ : ∃ t : Bool, nameB qa = t := ⟨_, rfl⟩
  obtain ⟨t1, h1⟩ : ∃ t : Bool, inB qk 0 1000 = t := ⟨_, rfl⟩
  obtain ⟨t2, h2⟩ : ∃ t : Bool, rightBudget ⟨ql, qm⟩ = t := ⟨_, rfl⟩
  obtain ⟨t3, h3⟩ : ∃ t : Bool, allB 16 rightArea qb = t := ⟨_, rfl⟩
  obtain ⟨t4, h4⟩ : ∃ t : Bool, allB 16 rightTask qc = t := ⟨_, rfl⟩
  obtain ⟨t5, h5⟩ : ∃ t : Bool, allB 16 rightLock qd = t := ⟨_, rfl⟩
  obtain ⟨t6, h6⟩ : ∃ t : Bool, allB 16 rightSema qe = t := ⟨_, rfl⟩
  obtain ⟨t7, h7⟩ : ∃ t : Bool, allB 16 rightEvent qf = t := ⟨_, rfl⟩
  obtain ⟨t8, h8⟩ : ∃ t : Bool, allB 16 rightBoard qg = t := ⟨_, rfl⟩
  obtain ⟨t9, h9⟩ : ∃ t : Bool, allB 16 rightBuffer qh = t := ⟨_, rfl⟩
  obtain ⟨t10, h10⟩ : ∃ t : Bool, allB 16 rightPort qi = t := ⟨_, rfl⟩
  obtain ⟨t11, h11⟩ : ∃ t : Bool, allB 32 rightRule qj = t := ⟨_, rfl⟩
  have HR : Hid (rightPartition ⟨qa, qb, qc, qd, qe, qf, qg, qh, qi, qj, qk, ql, qm⟩ = (t0 && t1 && t2 && t3 && t4 && t5 && t6 && t7 && t8 && t9 && t10 && t11)) := by unfold Hid rightPartition; dsimp only; rw [h0, h1, h2, h3, h4, h5, h6, h7, h8, h9, h10, h11]
  have C0 : Hid (∀ W, Calls Try.prog 8 #[.string qa] W fun e w' => e = .returned (.bool t0) ∧ w' = W) := fun W => by rw [← h0]; exact name_any qa W hsqa
  have C1 : Hid (∀ W, Calls Try.prog 28 #[.int .i64 qk, .int .i64 0, .int .i64 1000] W fun e w' => e = .returned (.bool t1) ∧ w' = W) := fun W => by rw [← h1]; exact within_any qk _ _ W
  have C2 : Hid (∀ W, Calls Try.prog 82 #[.agg #[.int .i64 ql, .int .i64 qm]] W fun e w' => e = .returned (.bool t2) ∧ Below W.heap.size W w') := fun W => by rw [← h2]; exact rightBudget_core ql qm W
  have C3 : Hid (∀ W, Below w.heap.size w W → Calls Try.prog 83 #[vqb, .int .i64 16, .func (.func 84) #[] #[]] W fun e w' => e = .returned (.bool t3) ∧ Below W.heap.size W w') := fun W hB => by rw [← h3]; exact allArea_any vqb qb 16 W (hqb.below hB)
  have C4 : Hid (∀ W, Below w.heap.size w W → Calls Try.prog 85 #[vqc, .int .i64 16, .func (.func 86) #[] #[]] W fun e w' => e = .returned (.bool t4) ∧ Below W.heap.size W w') := fun W hB => by rw [← h4]; exact allTask_any vqc qc 16 W (hqc.below hB)
  have C5 : Hid (∀ W, Below w.heap.size w W → Calls Try.prog 87 #[vqd, .int .i64 16, .func (.func 88) #[] #[]] W fun e w' => e = .returned (.bool t5) ∧ Below W.heap.size W w') := fun W hB => by rw [← h5]; exact allLock_any vqd qd 16 W (hqd.below hB)
  have C6 : Hid (∀ W, Below w.heap.size w W → Calls Try.prog 89 #[vqe, .int .i64 16, .func (.func 90) #[] #[]] W fun e w' => e = .returned (.bool t6) ∧ Below W.heap.size W w') := fun W hB => by rw [← h6]; exact allSema_any vqe qe 16 W (hqe.below hB)
  have C7 : Hid (∀ W, Below w.heap.size w W → Calls Try.prog 91 #[vqf, .int .i64 16, .func (.func 92) #[] #[]] W fun e w' => e = .returned (.bool t7) ∧ Below W.heap.size W w') := fun W hB => by rw [← h7]; exact allEvent_any vqf qf 16 W (hqf.below hB)
  have C8 : Hid (∀ W, Below w.heap.size w W → Calls Try.prog 93 #[vqg, .int .i64 16, .func (.func 94) #[] #[]] W fun e w' => e = .returned (.bool t8) ∧ Below W.heap.size W w') := fun W hB => by rw [← h8]; exact allBoard_any vqg qg 16 W (hqg.below hB)
  have C9 : Hid (∀ W, Below w.heap.size w W → Calls Try.prog 95 #[vqh, .int .i64 16, .func (.func 96) #[] #[]] W fun e w' => e = .returned (.bool t9) ∧ Below W.heap.size W w') := fun W hB => by rw [← h9]; exact allBuffer_any vqh qh 16 W (hqh.below hB)
  have C10 : Hid (∀ W, Below w.heap.size w W → Calls Try.prog 97 #[vqi, .int .i64 16, .func (.func 98) #[] #[]] W fun e w' => e = .returned (.bool t10) ∧ Below W.heap.size W w') := fun W hB => by rw [← h10]; exact allPort_any vqi qi 16 W (hqi.below hB)
  have C11 : Hid (∀ W, Below w.heap.size w W → Calls Try.prog 37 #[vqj, .int .i64 32, .func (.func 38) #[] #[]] W fun e w' => e = .returned (.bool t11) ∧ Below W.heap.size W w') := fun W hB => by rw [← h11]; exact allRule_any vqj qj 32 W (hqj.below hB)
  clear h0 h1 h2 h3 h4 h5 h6 h7 h8 h9 h10 h11 hsqa hqb hqc hqd hqe hqf hqg hqh hqi hqj
  cases t0 with
  | false =>
    go_enter Try.func30, Try.ntmps30
    go_wp2_with fail
    obtain ⟨W0, hW0⟩ : ∃ W0, w.alloc (.cells #[.string qa, vqb, vqc, vqd, vqe, vqf, vqg, vqh, vqi, vqj, .int .i64 qk, .int .i64 ql, .int .i64 qm] 52) = W0 := ⟨_, rfl⟩
    have d0 : W0.cell? ⟨w.heap.size, 0, none⟩ = some (.string qa) := by rw [← hW0, World.cell?_alloc_new]; rfl
    have d1 : W0.cell? ⟨w.heap.size, 1, none⟩ = some (vqb) := by rw [← hW0, World.cell?_alloc_new]; rfl
    have d2 : W0.cell? ⟨w.heap.size, 2, none⟩ = some (vqc) := by rw [← hW0, World.cell?_alloc_new]; rfl
    have d3 : W0.cell? ⟨w.heap.size, 3, none⟩ = some (vqd) := by rw [← hW0, World.cell?_alloc_new]; rfl
    have d4 : W0.cell? ⟨w.heap.size, 4, none⟩ = some (vqe) := by rw [← hW0, World.cell?_alloc_new]; rfl
    have d5 : W0.cell? ⟨w.heap.size, 5, none⟩ = some (vqf) := by rw [← hW0, World.cell?_alloc_new]; rfl
    have d6 : W0.cell? ⟨w.heap.size, 6, none⟩ = some (vqg) := by rw [← hW0, World.cell?_alloc_new]; rfl
    have d7 : W0.cell? ⟨w.heap.size, 7, none⟩ = some (vqh) := by rw [← hW0, World.cell?_alloc_new]; rfl
    have d8 : W0.cell? ⟨w.heap.size, 8, none⟩ = some (vqi) := by rw [← hW0, World.cell?_alloc_new]; rfl
    have d9 : W0.cell? ⟨w.heap.size, 9, none⟩ = some (vqj) := by rw [← hW0, World.cell?_alloc_new]; rfl
    have d10 : W0.cell? ⟨w.heap.size, 10, none⟩ = some (.int .i64 qk) := by rw [← hW0, World.cell?_alloc_new]; rfl
    have d11 : W0.cell? ⟨w.heap.size, 11, none⟩ = some (.int .i64 ql) := by rw [← hW0, World.cell?_alloc_new]; rfl
    have d12 : W0.cell? ⟨w.heap.size, 12, none⟩ = some (.int .i64 qm) := by rw [← hW0, World.cell?_alloc_new]; rfl
    have B0 : Hid (Below w.heap.size w W0) := by rw [← hW0]; exact (Below.refl _ _).alloc (Nat.le_refl _) _
    rw [hW0]
    clear hW0
    refine (C0.out _).mono ?_
    rintro e W ⟨rfl, h⟩
    have h := h.symm
    subst h
    go_wp2_with fail
    go_ret
    exact ⟨by rw [HR.out]; rfl, B0.out⟩
  | true =>
    cases t1 with
    | false =>
      go_enter Try.func30, Try.ntmps30
      go_wp2_with fail
      obtain ⟨W0, hW0⟩ : ∃ W0, w.alloc (.cells #[.string qa, vqb, vqc, vqd, vqe, vqf, vqg, vqh, vqi, vqj, .int .i64 qk, .int .i64 ql, .int .i64 qm] 52) = W0 := ⟨_, rfl⟩
      have d0 : W0.cell? ⟨w.heap.size, 0, none⟩ = some (.string qa) := by rw [← hW0, World.cell?_alloc_new]; rfl
      have d1 : W0.cell? ⟨w.heap.size, 1, none⟩ = some (vqb) := by rw [← hW0, World.cell?_alloc_new]; rfl
      have d2 : W0.cell? ⟨w.heap.size, 2, none⟩ = some (vqc) := by rw [← hW0, World.cell?_alloc_new]; rfl
      have d3 : W0.cell? ⟨w.heap.size, 3, none⟩ = some (vqd) := by rw [← hW0, World.cell?_alloc_new]; rfl
      have d4 : W0.cell? ⟨w.heap.size, 4, none⟩ = some (vqe) := by rw [← hW0, World.cell?_alloc_new]; rfl
      have d5 : W0.cell? ⟨w.heap.size, 5, none⟩ = some (vqf) := by rw [← hW0, World.cell?_alloc_new]; rfl
      have d6 : W0.cell? ⟨w.heap.size, 6, none⟩ = some (vqg) := by rw [← hW0, World.cell?_alloc_new]; rfl
      have d7 : W0.cell? ⟨w.heap.size, 7, none⟩ = some (vqh) := by rw [← hW0, World.cell?_alloc_new]; rfl
      have d8 : W0.cell? ⟨w.heap.size, 8, none⟩ = some (vqi) := by rw [← hW0, World.cell?_alloc_new]; rfl
      have d9 : W0.cell? ⟨w.heap.size, 9, none⟩ = some (vqj) := by rw [← hW0, World.cell?_alloc_new]; rfl
      have d10 : W0.cell? ⟨w.heap.size, 10, none⟩ = some (.int .i64 qk) := by rw [← hW0, World.cell?_alloc_new]; rfl
      have d11 : W0.cell? ⟨w.heap.size, 11, none⟩ = some (.int .i64 ql) := by rw [← hW0, World.cell?_alloc_new]; rfl
      have d12 : W0.cell? ⟨w.heap.size, 12, none⟩ = some (.int .i64 qm) := by rw [← hW0, World.cell?_alloc_new]; rfl
      have B0 : Hid (Below w.heap.size w W0) := by rw [← hW0]; exact (Below.refl _ _).alloc (Nat.le_refl _) _
      rw [hW0]
      clear hW0
      refine (C0.out _).mono ?_
      rintro e W ⟨rfl, h⟩
      have h := h.symm
      subst h
      go_wp2_with fail
      refine (C1.out _).mono ?_
      rintro e W ⟨rfl, h⟩
      have h := h.symm
      subst h
      go_wp2_with fail
      go_ret
      exact ⟨by rw [HR.out]; rfl, B0.out⟩
    | true =>
      cases t2 with
      | false =>
        go_enter Try.func30, Try.ntmps30
        go_wp2_with fail
        obtain ⟨W0, hW0⟩ : ∃ W0, w.alloc (.cells #[.string qa, vqb, vqc, vqd, vqe, vqf, vqg, vqh, vqi, vqj, .int .i64 qk, .int .i64 ql, .int .i64 qm] 52) = W0 := ⟨_, rfl⟩
        have d0 : W0.cell? ⟨w.heap.size, 0, none⟩ = some (.string qa) := by rw [← hW0, World.cell?_alloc_new]; rfl
        have d1 : W0.cell? ⟨w.heap.size, 1, none⟩ = some (vqb) := by rw [← hW0, World.cell?_alloc_new]; rfl
        have d2 : W0.cell? ⟨w.heap.size, 2, none⟩ = some (vqc) := by rw [← hW0, World.cell?_alloc_new]; rfl
        have d3 : W0.cell? ⟨w.heap.size, 3, none⟩ = some (vqd) := by rw [← hW0, World.cell?_alloc_new]; rfl
        have d4 : W0.cell? ⟨w.heap.size, 4, none⟩ = some (vqe) := by rw [← hW0, World.cell?_alloc_new]; rfl
        have d5 : W0.cell? ⟨w.heap.size, 5, none⟩ = some (vqf) := by rw [← hW0, World.cell?_alloc_new]; rfl
        have d6 : W0.cell? ⟨w.heap.size, 6, none⟩ = some (vqg) := by rw [← hW0, World.cell?_alloc_new]; rfl
        have d7 : W0.cell? ⟨w.heap.size, 7, none⟩ = some (vqh) := by rw [← hW0, World.cell?_alloc_new]; rfl
        have d8 : W0.cell? ⟨w.heap.size, 8, none⟩ = some (vqi) := by rw [← hW0, World.cell?_alloc_new]; rfl
        have d9 : W0.cell? ⟨w.heap.size, 9, none⟩ = some (vqj) := by rw [← hW0, World.cell?_alloc_new]; rfl
        have d10 : W0.cell? ⟨w.heap.size, 10, none⟩ = some (.int .i64 qk) := by rw [← hW0, World.cell?_alloc_new]; rfl
        have d11 : W0.cell? ⟨w.heap.size, 11, none⟩ = some (.int .i64 ql) := by rw [← hW0, World.cell?_alloc_new]; rfl
        have d12 : W0.cell? ⟨w.heap.size, 12, none⟩ = some (.int .i64 qm) := by rw [← hW0, World.cell?_alloc_new]; rfl
        have B0 : Hid (Below w.heap.size w W0) := by rw [← hW0]; exact (Below.refl _ _).alloc (Nat.le_refl _) _
        rw [hW0]
        clear hW0
        refine (C0.out _).mono ?_
        rintro e W ⟨rfl, h⟩
        have h := h.symm
        subst h
        go_wp2_with fail
        refine (C1.out _).mono ?_
        rintro e W ⟨rfl, h⟩
        have h := h.symm
        subst h
        go_wp2_with fail
        refine (C2.out _).mono ?_
        rintro e W1 ⟨rfl, b⟩
        replace d0 := cell_later b d0
        replace d1 := cell_later b d1
        replace d2 := cell_later b d2
        replace d3 := cell_later b d3
        replace d4 := cell_later b d4
        replace d5 := cell_later b d5
        replace d6 := cell_later b d6
        replace d7 := cell_later b d7
        replace d8 := cell_later b d8
        replace d9 := cell_later b d9
        replace d10 := cell_later b d10
        replace d11 := cell_later b d11
        replace d12 := cell_later b d12
        have B1 : Hid (Below w.heap.size w W1) := B0.out.trans (b.mono B0.out.size)
        clear b
        go_wp2_with fail
        go_ret
        exact ⟨by rw [HR.out]; rfl, B1.out⟩
      | true =>
        cases t3 with
        | false =>
          go_enter Try.func30, Try.ntmps30
          go_wp2_with fail
          obtain ⟨W0, hW0⟩ : ∃ W0, w.alloc (.cells #[.string qa, vqb, vqc, vqd, vqe, vqf, vqg, vqh, vqi, vqj, .int .i64 qk, .int .i64 ql, .int .i64 qm] 52) = W0 := ⟨_, rfl⟩
          have d0 : W0.cell? ⟨w.heap.size, 0, none⟩ = some (.string qa) := by rw [← hW0, World.cell?_alloc_new]; rfl
          have d1 : W0.cell? ⟨w.heap.size, 1, none⟩ = some (vqb) := by rw [← hW0, World.cell?_alloc_new]; rfl
          have d2 : W0.cell? ⟨w.heap.size, 2, none⟩ = some (vqc) := by rw [← hW0, World.cell?_alloc_new]; rfl
          have d3 : W0.cell? ⟨w.heap.size, 3, none⟩ = some (vqd) := by rw [← hW0, World.cell?_alloc_new]; rfl
          have d4 : W0.cell? ⟨w.heap.size, 4, none⟩ = some (vqe) := by rw [← hW0, World.cell?_alloc_new]; rfl
          have d5 : W0.cell? ⟨w.heap.size, 5, none⟩ = some (vqf) := by rw [← hW0, World.cell?_alloc_new]; rfl
          have d6 : W0.cell? ⟨w.heap.size, 6, none⟩ = some (vqg) := by rw [← hW0, World.cell?_alloc_new]; rfl
          have d7 : W0.cell? ⟨w.heap.size, 7, none⟩ = some (vqh) := by rw [← hW0, World.cell?_alloc_new]; rfl
          have d8 : W0.cell? ⟨w.heap.size, 8, none⟩ = some (vqi) := by rw [← hW0, World.cell?_alloc_new]; rfl
          have d9 : W0.cell? ⟨w.heap.size, 9, none⟩ = some (vqj) := by rw [← hW0, World.cell?_alloc_new]; rfl
          have d10 : W0.cell? ⟨w.heap.size, 10, none⟩ = some (.int .i64 qk) := by rw [← hW0, World.cell?_alloc_new]; rfl
          have d11 : W0.cell? ⟨w.heap.size, 11, none⟩ = some (.int .i64 ql) := by rw [← hW0, World.cell?_alloc_new]; rfl
          have d12 : W0.cell? ⟨w.heap.size, 12, none⟩ = some (.int .i64 qm) := by rw [← hW0, World.cell?_alloc_new]; rfl
          have B0 : Hid (Below w.heap.size w W0) := by rw [← hW0]; exact (Below.refl _ _).alloc (Nat.le_refl _) _
          rw [hW0]
          clear hW0
          refine (C0.out _).mono ?_
          rintro e W ⟨rfl, h⟩
          have h := h.symm
          subst h
          go_wp2_with fail
          refine (C1.out _).mono ?_
          rintro e W ⟨rfl, h⟩
          have h := h.symm
          subst h
          go_wp2_with fail
          refine (C2.out _).mono ?_
          rintro e W1 ⟨rfl, b⟩
          replace d0 := cell_later b d0
          replace d1 := cell_later b d1
          replace d2 := cell_later b d2
          replace d3 := cell_later b d3
          replace d4 := cell_later b d4
          replace d5 := cell_later b d5
          replace d6 := cell_later b d6
          replace d7 := cell_later b d7
          replace d8 := cell_later b d8
          replace d9 := cell_later b d9
          replace d10 := cell_later b d10
          replace d11 := cell_later b d11
          replace d12 := cell_later b d12
          have B1 : Hid (Below w.heap.size w W1) := B0.out.trans (b.mono B0.out.size)
          clear b
          go_wp2_with fail
          refine (C3.out _ B1.out).mono ?_
          rintro e W2 ⟨rfl, b⟩
          replace d0 := cell_later b d0
          replace d1 := cell_later b d1
          replace d2 := cell_later b d2
          replace d3 := cell_later b d3
          replace d4 := cell_later b d4
          replace d5 := cell_later b d5
          replace d6 := cell_later b d6
          replace d7 := cell_later b d7
          replace d8 := cell_later b d8
          replace d9 := cell_later b d9
          replace d10 := cell_later b d10
          replace d11 := cell_later b d11
          replace d12 := cell_later b d12
          have B2 : Hid (Below w.heap.size w W2) := B1.out.trans (b.mono B1.out.size)
          clear b
          go_wp2_with fail
          go_ret
          exact ⟨by rw [HR.out]; rfl, B2.out⟩
        | true =>
          cases t4 with
          | false =>
            go_enter Try.func30, Try.ntmps30
            go_wp2_with fail
            obtain ⟨W0, hW0⟩ : ∃ W0, w.alloc (.cells #[.string qa, vqb, vqc, vqd, vqe, vqf, vqg, vqh, vqi, vqj, .int .i64 qk, .int .i64 ql, .int .i64 qm] 52) = W0 := ⟨_, rfl⟩
            have d0 : W0.cell? ⟨w.heap.size, 0, none⟩ = some (.string qa) := by rw [← hW0, World.cell?_alloc_new]; rfl
            have d1 : W0.cell? ⟨w.heap.size, 1, none⟩ = some (vqb) := by rw [← hW0, World.cell?_alloc_new]; rfl
            have d2 : W0.cell? ⟨w.heap.size, 2, none⟩ = some (vqc) := by rw [← hW0, World.cell?_alloc_new]; rfl
            have d3 : W0.cell? ⟨w.heap.size, 3, none⟩ = some (vqd) := by rw [← hW0, World.cell?_alloc_new]; rfl
            have d4 : W0.cell? ⟨w.heap.size, 4, none⟩ = some (vqe) := by rw [← hW0, World.cell?_alloc_new]; rfl
            have d5 : W0.cell? ⟨w.heap.size, 5, none⟩ = some (vqf) := by rw [← hW0, World.cell?_alloc_new]; rfl
            have d6 : W0.cell? ⟨w.heap.size, 6, none⟩ = some (vqg) := by rw [← hW0, World.cell?_alloc_new]; rfl
            have d7 : W0.cell? ⟨w.heap.size, 7, none⟩ = some (vqh) := by rw [← hW0, World.cell?_alloc_new]; rfl
            have d8 : W0.cell? ⟨w.heap.size, 8, none⟩ = some (vqi) := by rw [← hW0, World.cell?_alloc_new]; rfl
            have d9 : W0.cell? ⟨w.heap.size, 9, none⟩ = some (vqj) := by rw [← hW0, World.cell?_alloc_new]; rfl
            have d10 : W0.cell? ⟨w.heap.size, 10, none⟩ = some (.int .i64 qk) := by rw [← hW0, World.cell?_alloc_new]; rfl
            have d11 : W0.cell? ⟨w.heap.size, 11, none⟩ = some (.int .i64 ql) := by rw [← hW0, World.cell?_alloc_new]; rfl
            have d12 : W0.cell? ⟨w.heap.size, 12, none⟩ = some (.int .i64 qm) := by rw [← hW0, World.cell?_alloc_new]; rfl
            have B0 : Hid (Below w.heap.size w W0) := by rw [← hW0]; exact (Below.refl _ _).alloc (Nat.le_refl _) _
            rw [hW0]
            clear hW0
            refine (C0.out _).mono ?_
            rintro e W ⟨rfl, h⟩
            have h := h.symm
            subst h
            go_wp2_with fail
            refine (C1.out _).mono ?_
            rintro e W ⟨rfl, h⟩
            have h := h.symm
            subst h
            go_wp2_with fail
            refine (C2.out _).mono ?_
            rintro e W1 ⟨rfl, b⟩
            replace d0 := cell_later b d0
            replace d1 := cell_later b d1
            replace d2 := cell_later b d2
            replace d3 := cell_later b d3
            replace d4 := cell_later b d4
            replace d5 := cell_later b d5
            replace d6 := cell_later b d6
            replace d7 := cell_later b d7
            replace d8 := cell_later b d8
            replace d9 := cell_later b d9
            replace d10 := cell_later b d10
            replace d11 := cell_later b d11
            replace d12 := cell_later b d12
            have B1 : Hid (Below w.heap.size w W1) := B0.out.trans (b.mono B0.out.size)
            clear b
            go_wp2_with fail
            refine (C3.out _ B1.out).mono ?_
            rintro e W2 ⟨rfl, b⟩
            replace d0 := cell_later b d0
            replace d1 := cell_later b d1
            replace d2 := cell_later b d2
            replace d3 := cell_later b d3
            replace d4 := cell_later b d4
            replace d5 := cell_later b d5
            replace d6 := cell_later b d6
            replace d7 := cell_later b d7
            replace d8 := cell_later b d8
            replace d9 := cell_later b d9
            replace d10 := cell_later b d10
            replace d11 := cell_later b d11
            replace d12 := cell_later b d12
            have B2 : Hid (Below w.heap.size w W2) := B1.out.trans (b.mono B1.out.size)
            clear b
            go_wp2_with fail
            refine (C4.out _ B2.out).mono ?_
            rintro e W3 ⟨rfl, b⟩
            replace d0 := cell_later b d0
            replace d1 := cell_later b d1
            replace d2 := cell_later b d2
            replace d3 := cell_later b d3
            replace d4 := cell_later b d4
            replace d5 := cell_later b d5
            replace d6 := cell_later b d6
            replace d7 := cell_later b d7
            replace d8 := cell_later b d8
            replace d9 := cell_later b d9
            replace d10 := cell_later b d10
            replace d11 := cell_later b d11
            replace d12 := cell_later b d12
            have B3 : Hid (Below w.heap.size w W3) := B2.out.trans (b.mono B2.out.size)
            clear b
            go_wp2_with fail
            go_ret
            exact ⟨by rw [HR.out]; rfl, B3.out⟩
          | true =>
            cases t5 with
            | false =>
              go_enter Try.func30, Try.ntmps30
              go_wp2_with fail
              obtain ⟨W0, hW0⟩ : ∃ W0, w.alloc (.cells #[.string qa, vqb, vqc, vqd, vqe, vqf, vqg, vqh, vqi, vqj, .int .i64 qk, .int .i64 ql, .int .i64 qm] 52) = W0 := ⟨_, rfl⟩
              have d0 : W0.cell? ⟨w.heap.size, 0, none⟩ = some (.string qa) := by rw [← hW0, World.cell?_alloc_new]; rfl
              have d1 : W0.cell? ⟨w.heap.size, 1, none⟩ = some (vqb) := by rw [← hW0, World.cell?_alloc_new]; rfl
              have d2 : W0.cell? ⟨w.heap.size, 2, none⟩ = some (vqc) := by rw [← hW0, World.cell?_alloc_new]; rfl
              have d3 : W0.cell? ⟨w.heap.size, 3, none⟩ = some (vqd) := by rw [← hW0, World.cell?_alloc_new]; rfl
              have d4 : W0.cell? ⟨w.heap.size, 4, none⟩ = some (vqe) := by rw [← hW0, World.cell?_alloc_new]; rfl
              have d5 : W0.cell? ⟨w.heap.size, 5, none⟩ = some (vqf) := by rw [← hW0, World.cell?_alloc_new]; rfl
              have d6 : W0.cell? ⟨w.heap.size, 6, none⟩ = some (vqg) := by rw [← hW0, World.cell?_alloc_new]; rfl
              have d7 : W0.cell? ⟨w.heap.size, 7, none⟩ = some (vqh) := by rw [← hW0, World.cell?_alloc_new]; rfl
              have d8 : W0.cell? ⟨w.heap.size, 8, none⟩ = some (vqi) := by rw [← hW0, World.cell?_alloc_new]; rfl
              have d9 : W0.cell? ⟨w.heap.size, 9, none⟩ = some (vqj) := by rw [← hW0, World.cell?_alloc_new]; rfl
              have d10 : W0.cell? ⟨w.heap.size, 10, none⟩ = some (.int .i64 qk) := by rw [← hW0, World.cell?_alloc_new]; rfl
              have d11 : W0.cell? ⟨w.heap.size, 11, none⟩ = some (.int .i64 ql) := by rw [← hW0, World.cell?_alloc_new]; rfl
              have d12 : W0.cell? ⟨w.heap.size, 12, none⟩ = some (.int .i64 qm) := by rw [← hW0, World.cell?_alloc_new]; rfl
              have B0 : Hid (Below w.heap.size w W0) := by rw [← hW0]; exact (Below.refl _ _).alloc (Nat.le_refl _) _
              rw [hW0]
              clear hW0
              refine (C0.out _).mono ?_
              rintro e W ⟨rfl, h⟩
              have h := h.symm
              subst h
              go_wp2_with fail
              refine (C1.out _).mono ?_
              rintro e W ⟨rfl, h⟩
              have h := h.symm
              subst h
              go_wp2_with fail
              refine (C2.out _).mono ?_
              rintro e W1 ⟨rfl, b⟩
              replace d0 := cell_later b d0
              replace d1 := cell_later b d1
              replace d2 := cell_later b d2
              replace d3 := cell_later b d3
              replace d4 := cell_later b d4
              replace d5 := cell_later b d5
              replace d6 := cell_later b d6
              replace d7 := cell_later b d7
              replace d8 := cell_later b d8
              replace d9 := cell_later b d9
              replace d10 := cell_later b d10
              replace d11 := cell_later b d11
              replace d12 := cell_later b d12
              have B1 : Hid (Below w.heap.size w W1) := B0.out.trans (b.mono B0.out.size)
              clear b
              go_wp2_with fail
              refine (C3.out _ B1.out).mono ?_
              rintro e W2 ⟨rfl, b⟩
              replace d0 := cell_later b d0
              replace d1 := cell_later b d1
              replace d2 := cell_later b d2
              replace d3 := cell_later b d3
              replace d4 := cell_later b d4
              replace d5 := cell_later b d5
              replace d6 := cell_later b d6
              replace d7 := cell_later b d7
              replace d8 := cell_later b d8
              replace d9 := cell_later b d9
              replace d10 := cell_later b d10
              replace d11 := cell_later b d11
              replace d12 := cell_later b d12
              have B2 : Hid (Below w.heap.size w W2) := B1.out.trans (b.mono B1.out.size)
              clear b
              go_wp2_with fail
              refine (C4.out _ B2.out).mono ?_
              rintro e W3 ⟨rfl, b⟩
              replace d0 := cell_later b d0
              replace d1 := cell_later b d1
              replace d2 := cell_later b d2
              replace d3 := cell_later b d3
              replace d4 := cell_later b d4
              replace d5 := cell_later b d5
              replace d6 := cell_later b d6
              replace d7 := cell_later b d7
              replace d8 := cell_later b d8
              replace d9 := cell_later b d9
              replace d10 := cell_later b d10
              replace d11 := cell_later b d11
              replace d12 := cell_later b d12
              have B3 : Hid (Below w.heap.size w W3) := B2.out.trans (b.mono B2.out.size)
              clear b
              go_wp2_with fail
              refine (C5.out _ B3.out).mono ?_
              rintro e W4 ⟨rfl, b⟩
              replace d0 := cell_later b d0
              replace d1 := cell_later b d1
              replace d2 := cell_later b d2
              replace d3 := cell_later b d3
              replace d4 := cell_later b d4
              replace d5 := cell_later b d5
              replace d6 := cell_later b d6
              replace d7 := cell_later b d7
              replace d8 := cell_later b d8
              replace d9 := cell_later b d9
              replace d10 := cell_later b d10
              replace d11 := cell_later b d11
              replace d12 := cell_later b d12
              have B4 : Hid (Below w.heap.size w W4) := B3.out.trans (b.mono B3.out.size)
              clear b
              go_wp2_with fail
              go_ret
              exact ⟨by rw [HR.out]; rfl, B4.out⟩
            | true =>
              cases t6 with
              | false =>
                go_enter Try.func30, Try.ntmps30
                go_wp2_with fail
                obtain ⟨W0, hW0⟩ : ∃ W0, w.alloc (.cells #[.string qa, vqb, vqc, vqd, vqe, vqf, vqg, vqh, vqi, vqj, .int .i64 qk, .int .i64 ql, .int .i64 qm] 52) = W0 := ⟨_, rfl⟩
                have d0 : W0.cell? ⟨w.heap.size, 0, none⟩ = some (.string qa) := by rw [← hW0, World.cell?_alloc_new]; rfl
                have d1 : W0.cell? ⟨w.heap.size, 1, none⟩ = some (vqb) := by rw [← hW0, World.cell?_alloc_new]; rfl
                have d2 : W0.cell? ⟨w.heap.size, 2, none⟩ = some (vqc) := by rw [← hW0, World.cell?_alloc_new]; rfl
                have d3 : W0.cell? ⟨w.heap.size, 3, none⟩ = some (vqd) := by rw [← hW0, World.cell?_alloc_new]; rfl
                have d4 : W0.cell? ⟨w.heap.size, 4, none⟩ = some (vqe) := by rw [← hW0, World.cell?_alloc_new]; rfl
                have d5 : W0.cell? ⟨w.heap.size, 5, none⟩ = some (vqf) := by rw [← hW0, World.cell?_alloc_new]; rfl
                have d6 : W0.cell? ⟨w.heap.size, 6, none⟩ = some (vqg) := by rw [← hW0, World.cell?_alloc_new]; rfl
                have d7 : W0.cell? ⟨w.heap.size, 7, none⟩ = some (vqh) := by rw [← hW0, World.cell?_alloc_new]; rfl
                have d8 : W0.cell? ⟨w.heap.size, 8, none⟩ = some (vqi) := by rw [← hW0, World.cell?_alloc_new]; rfl
                have d9 : W0.cell? ⟨w.heap.size, 9, none⟩ = some (vqj) := by rw [← hW0, World.cell?_alloc_new]; rfl
                have d10 : W0.cell? ⟨w.heap.size, 10, none⟩ = some (.int .i64 qk) := by rw [← hW0, World.cell?_alloc_new]; rfl
                have d11 : W0.cell? ⟨w.heap.size, 11, none⟩ = some (.int .i64 ql) := by rw [← hW0, World.cell?_alloc_new]; rfl
                have d12 : W0.cell? ⟨w.heap.size, 12, none⟩ = some (.int .i64 qm) := by rw [← hW0, World.cell?_alloc_new]; rfl
                have B0 : Hid (Below w.heap.size w W0) := by rw [← hW0]; exact (Below.refl _ _).alloc (Nat.le_refl _) _
                rw [hW0]
                clear hW0
                refine (C0.out _).mono ?_
                rintro e W ⟨rfl, h⟩
                have h := h.symm
                subst h
                go_wp2_with fail
                refine (C1.out _).mono ?_
                rintro e W ⟨rfl, h⟩
                have h := h.symm
                subst h
                go_wp2_with fail
                refine (C2.out _).mono ?_
                rintro e W1 ⟨rfl, b⟩
                replace d0 := cell_later b d0
                replace d1 := cell_later b d1
                replace d2 := cell_later b d2
                replace d3 := cell_later b d3
                replace d4 := cell_later b d4
                replace d5 := cell_later b d5
                replace d6 := cell_later b d6
                replace d7 := cell_later b d7
                replace d8 := cell_later b d8
                replace d9 := cell_later b d9
                replace d10 := cell_later b d10
                replace d11 := cell_later b d11
                replace d12 := cell_later b d12
                have B1 : Hid (Below w.heap.size w W1) := B0.out.trans (b.mono B0.out.size)
                clear b
                go_wp2_with fail
                refine (C3.out _ B1.out).mono ?_
                rintro e W2 ⟨rfl, b⟩
                replace d0 := cell_later b d0
                replace d1 := cell_later b d1
                replace d2 := cell_later b d2
                replace d3 := cell_later b d3
                replace d4 := cell_later b d4
                replace d5 := cell_later b d5
                replace d6 := cell_later b d6
                replace d7 := cell_later b d7
                replace d8 := cell_later b d8
                replace d9 := cell_later b d9
                replace d10 := cell_later b d10
                replace d11 := cell_later b d11
                replace d12 := cell_later b d12
                have B2 : Hid (Below w.heap.size w W2) := B1.out.trans (b.mono B1.out.size)
                clear b
                go_wp2_with fail
                refine (C4.out _ B2.out).mono ?_
                rintro e W3 ⟨rfl, b⟩
                replace d0 := cell_later b d0
                replace d1 := cell_later b d1
                replace d2 := cell_later b d2
                replace d3 := cell_later b d3
                replace d4 := cell_later b d4
                replace d5 := cell_later b d5
                replace d6 := cell_later b d6
                replace d7 := cell_later b d7
                replace d8 := cell_later b d8
                replace d9 := cell_later b d9
                replace d10 := cell_later b d10
                replace d11 := cell_later b d11
                replace d12 := cell_later b d12
                have B3 : Hid (Below w.heap.size w W3) := B2.out.trans (b.mono B2.out.size)
                clear b
                go_wp2_with fail
                refine (C5.out _ B3.out).mono ?_
                rintro e W4 ⟨rfl, b⟩
                replace d0 := cell_later b d0
                replace d1 := cell_later b d1
                replace d2 := cell_later b d2
                replace d3 := cell_later b d3
                replace d4 := cell_later b d4
                replace d5 := cell_later b d5
                replace d6 := cell_later b d6
                replace d7 := cell_later b d7
                replace d8 := cell_later b d8
                replace d9 := cell_later b d9
                replace d10 := cell_later b d10
                replace d11 := cell_later b d11
                replace d12 := cell_later b d12
                have B4 : Hid (Below w.heap.size w W4) := B3.out.trans (b.mono B3.out.size)
                clear b
                go_wp2_with fail
                refine (C6.out _ B4.out).mono ?_
                rintro e W5 ⟨rfl, b⟩
                replace d0 := cell_later b d0
                replace d1 := cell_later b d1
                replace d2 := cell_later b d2
                replace d3 := cell_later b d3
                replace d4 := cell_later b d4
                replace d5 := cell_later b d5
                replace d6 := cell_later b d6
                replace d7 := cell_later b d7
                replace d8 := cell_later b d8
                replace d9 := cell_later b d9
                replace d10 := cell_later b d10
                replace d11 := cell_later b d11
                replace d12 := cell_later b d12
                have B5 : Hid (Below w.heap.size w W5) := B4.out.trans (b.mono B4.out.size)
                clear b
                go_wp2_with fail
                go_ret
                exact ⟨by rw [HR.out]; rfl, B5.out⟩
              | true =>
                cases t7 with
                | false =>
                  go_enter Try.func30, Try.ntmps30
                  go_wp2_with fail
                  obtain ⟨W0, hW0⟩ : ∃ W0, w.alloc (.cells #[.string qa, vqb, vqc, vqd, vqe, vqf, vqg, vqh, vqi, vqj, .int .i64 qk, .int .i64 ql, .int .i64 qm] 52) = W0 := ⟨_, rfl⟩
                  have d0 : W0.cell? ⟨w.heap.size, 0, none⟩ = some (.string qa) := by rw [← hW0, World.cell?_alloc_new]; rfl
                  have d1 : W0.cell? ⟨w.heap.size, 1, none⟩ = some (vqb) := by rw [← hW0, World.cell?_alloc_new]; rfl
                  have d2 : W0.cell? ⟨w.heap.size, 2, none⟩ = some (vqc) := by rw [← hW0, World.cell?_alloc_new]; rfl
                  have d3 : W0.cell? ⟨w.heap.size, 3, none⟩ = some (vqd) := by rw [← hW0, World.cell?_alloc_new]; rfl
                  have d4 : W0.cell? ⟨w.heap.size, 4, none⟩ = some (vqe) := by rw [← hW0, World.cell?_alloc_new]; rfl
                  have d5 : W0.cell? ⟨w.heap.size, 5, none⟩ = some (vqf) := by rw [← hW0, World.cell?_alloc_new]; rfl
                  have d6 : W0.cell? ⟨w.heap.size, 6, none⟩ = some (vqg) := by rw [← hW0, World.cell?_alloc_new]; rfl
                  have d7 : W0.cell? ⟨w.heap.size, 7, none⟩ = some (vqh) := by rw [← hW0, World.cell?_alloc_new]; rfl
                  have d8 : W0.cell? ⟨w.heap.size, 8, none⟩ = some (vqi) := by rw [← hW0, World.cell?_alloc_new]; rfl
                  have d9 : W0.cell? ⟨w.heap.size, 9, none⟩ = some (vqj) := by rw [← hW0, World.cell?_alloc_new]; rfl
                  have d10 : W0.cell? ⟨w.heap.size, 10, none⟩ = some (.int .i64 qk) := by rw [← hW0, World.cell?_alloc_new]; rfl
                  have d11 : W0.cell? ⟨w.heap.size, 11, none⟩ = some (.int .i64 ql) := by rw [← hW0, World.cell?_alloc_new]; rfl
                  have d12 : W0.cell? ⟨w.heap.size, 12, none⟩ = some (.int .i64 qm) := by rw [← hW0, World.cell?_alloc_new]; rfl
                  have B0 : Hid (Below w.heap.size w W0) := by rw [← hW0]; exact (Below.refl _ _).alloc (Nat.le_refl _) _
                  rw [hW0]
                  clear hW0
                  refine (C0.out _).mono ?_
                  rintro e W ⟨rfl, h⟩
                  have h := h.symm
                  subst h
                  go_wp2_with fail
                  refine (C1.out _).mono ?_
                  rintro e W ⟨rfl, h⟩
                  have h := h.symm
                  subst h
                  go_wp2_with fail
                  refine (C2.out _).mono ?_
                  rintro e W1 ⟨rfl, b⟩
                  replace d0 := cell_later b d0
                  replace d1 := cell_later b d1
                  replace d2 := cell_later b d2
                  replace d3 := cell_later b d3
                  replace d4 := cell_later b d4
                  replace d5 := cell_later b d5
                  replace d6 := cell_later b d6
                  replace d7 := cell_later b d7
                  replace d8 := cell_later b d8
                  replace d9 := cell_later b d9
                  replace d10 := cell_later b d10
                  replace d11 := cell_later b d11
                  replace d12 := cell_later b d12
                  have B1 : Hid (Below w.heap.size w W1) := B0.out.trans (b.mono B0.out.size)
                  clear b
                  go_wp2_with fail
                  refine (C3.out _ B1.out).mono ?_
                  rintro e W2 ⟨rfl, b⟩
                  replace d0 := cell_later b d0
                  replace d1 := cell_later b d1
                  replace d2 := cell_later b d2
                  replace d3 := cell_later b d3
                  replace d4 := cell_later b d4
                  replace d5 := cell_later b d5
                  replace d6 := cell_later b d6
                  replace d7 := cell_later b d7
                  replace d8 := cell_later b d8
                  replace d9 := cell_later b d9
                  replace d10 := cell_later b d10
                  replace d11 := cell_later b d11
                  replace d12 := cell_later b d12
                  have B2 : Hid (Below w.heap.size w W2) := B1.out.trans (b.mono B1.out.size)
                  clear b
                  go_wp2_with fail
                  refine (C4.out _ B2.out).mono ?_
                  rintro e W3 ⟨rfl, b⟩
                  replace d0 := cell_later b d0
                  replace d1 := cell_later b d1
                  replace d2 := cell_later b d2
                  replace d3 := cell_later b d3
                  replace d4 := cell_later b d4
                  replace d5 := cell_later b d5
                  replace d6 := cell_later b d6
                  replace d7 := cell_later b d7
                  replace d8 := cell_later b d8
                  replace d9 := cell_later b d9
                  replace d10 := cell_later b d10
                  replace d11 := cell_later b d11
                  replace d12 := cell_later b d12
                  have B3 : Hid (Below w.heap.size w W3) := B2.out.trans (b.mono B2.out.size)
                  clear b
                  go_wp2_with fail
                  refine (C5.out _ B3.out).mono ?_
                  rintro e W4 ⟨rfl, b⟩
                  replace d0 := cell_later b d0
                  replace d1 := cell_later b d1
                  replace d2 := cell_later b d2
                  replace d3 := cell_later b d3
                  replace d4 := cell_later b d4
                  replace d5 := cell_later b d5
                  replace d6 := cell_later b d6
                  replace d7 := cell_later b d7
                  replace d8 := cell_later b d8
                  replace d9 := cell_later b d9
                  replace d10 := cell_later b d10
                  replace d11 := cell_later b d11
                  replace d12 := cell_later b d12
                  have B4 : Hid (Below w.heap.size w W4) := B3.out.trans (b.mono B3.out.size)
                  clear b
                  go_wp2_with fail
                  refine (C6.out _ B4.out).mono ?_
                  rintro e W5 ⟨rfl, b⟩
                  replace d0 := cell_later b d0
                  replace d1 := cell_later b d1
                  replace d2 := cell_later b d2
                  replace d3 := cell_later b d3
                  replace d4 := cell_later b d4
                  replace d5 := cell_later b d5
                  replace d6 := cell_later b d6
                  replace d7 := cell_later b d7
                  replace d8 := cell_later b d8
                  replace d9 := cell_later b d9
                  replace d10 := cell_later b d10
                  replace d11 := cell_later b d11
                  replace d12 := cell_later b d12
                  have B5 : Hid (Below w.heap.size w W5) := B4.out.trans (b.mono B4.out.size)
                  clear b
                  go_wp2_with fail
                  refine (C7.out _ B5.out).mono ?_
                  rintro e W6 ⟨rfl, b⟩
                  replace d0 := cell_later b d0
                  replace d1 := cell_later b d1
                  replace d2 := cell_later b d2
                  replace d3 := cell_later b d3
                  replace d4 := cell_later b d4
                  replace d5 := cell_later b d5
                  replace d6 := cell_later b d6
                  replace d7 := cell_later b d7
                  replace d8 := cell_later b d8
                  replace d9 := cell_later b d9
                  replace d10 := cell_later b d10
                  replace d11 := cell_later b d11
                  replace d12 := cell_later b d12
                  have B6 : Hid (Below w.heap.size w W6) := B5.out.trans (b.mono B5.out.size)
                  clear b
                  go_wp2_with fail
                  go_ret
                  exact ⟨by rw [HR.out]; rfl, B6.out⟩
                | true =>
                  cases t8 with
                  | false =>
                    go_enter Try.func30, Try.ntmps30
                    go_wp2_with fail
                    obtain ⟨W0, hW0⟩ : ∃ W0, w.alloc (.cells #[.string qa, vqb, vqc, vqd, vqe, vqf, vqg, vqh, vqi, vqj, .int .i64 qk, .int .i64 ql, .int .i64 qm] 52) = W0 := ⟨_, rfl⟩
                    have d0 : W0.cell? ⟨w.heap.size, 0, none⟩ = some (.string qa) := by rw [← hW0, World.cell?_alloc_new]; rfl
                    have d1 : W0.cell? ⟨w.heap.size, 1, none⟩ = some (vqb) := by rw [← hW0, World.cell?_alloc_new]; rfl
                    have d2 : W0.cell? ⟨w.heap.size, 2, none⟩ = some (vqc) := by rw [← hW0, World.cell?_alloc_new]; rfl
                    have d3 : W0.cell? ⟨w.heap.size, 3, none⟩ = some (vqd) := by rw [← hW0, World.cell?_alloc_new]; rfl
                    have d4 : W0.cell? ⟨w.heap.size, 4, none⟩ = some (vqe) := by rw [← hW0, World.cell?_alloc_new]; rfl
                    have d5 : W0.cell? ⟨w.heap.size, 5, none⟩ = some (vqf) := by rw [← hW0, World.cell?_alloc_new]; rfl
                    have d6 : W0.cell? ⟨w.heap.size, 6, none⟩ = some (vqg) := by rw [← hW0, World.cell?_alloc_new]; rfl
                    have d7 : W0.cell? ⟨w.heap.size, 7, none⟩ = some (vqh) := by rw [← hW0, World.cell?_alloc_new]; rfl
                    have d8 : W0.cell? ⟨w.heap.size, 8, none⟩ = some (vqi) := by rw [← hW0, World.cell?_alloc_new]; rfl
                    have d9 : W0.cell? ⟨w.heap.size, 9, none⟩ = some (vqj) := by rw [← hW0, World.cell?_alloc_new]; rfl
                    have d10 : W0.cell? ⟨w.heap.size, 10, none⟩ = some (.int .i64 qk) := by rw [← hW0, World.cell?_alloc_new]; rfl
                    have d11 : W0.cell? ⟨w.heap.size, 11, none⟩ = some (.int .i64 ql) := by rw [← hW0, World.cell?_alloc_new]; rfl
                    have d12 : W0.cell? ⟨w.heap.size, 12, none⟩ = some (.int .i64 qm) := by rw [← hW0, World.cell?_alloc_new]; rfl
                    have B0 : Hid (Below w.heap.size w W0) := by rw [← hW0]; exact (Below.refl _ _).alloc (Nat.le_refl _) _
                    rw [hW0]
                    clear hW0
                    refine (C0.out _).mono ?_
                    rintro e W ⟨rfl, h⟩
                    have h := h.symm
                    subst h
                    go_wp2_with fail
                    refine (C1.out _).mono ?_
                    rintro e W ⟨rfl, h⟩
                    have h := h.symm
                    subst h
                    go_wp2_with fail
                    refine (C2.out _).mono ?_
                    rintro e W1 ⟨rfl, b⟩
                    replace d0 := cell_later b d0
                    replace d1 := cell_later b d1
                    replace d2 := cell_later b d2
                    replace d3 := cell_later b d3
                    replace d4 := cell_later b d4
                    replace d5 := cell_later b d5
                    replace d6 := cell_later b d6
                    replace d7 := cell_later b d7
                    replace d8 := cell_later b d8
                    replace d9 := cell_later b d9
                    replace d10 := cell_later b d10
                    replace d11 := cell_later b d11
                    replace d12 := cell_later b d12
                    have B1 : Hid (Below w.heap.size w W1) := B0.out.trans (b.mono B0.out.size)
                    clear b
                    go_wp2_with fail
                    refine (C3.out _ B1.out).mono ?_
                    rintro e W2 ⟨rfl, b⟩
                    replace d0 := cell_later b d0
                    replace d1 := cell_later b d1
                    replace d2 := cell_later b d2
                    replace d3 := cell_later b d3
                    replace d4 := cell_later b d4
                    replace d5 := cell_later b d5
                    replace d6 := cell_later b d6
                    replace d7 := cell_later b d7
                    replace d8 := cell_later b d8
                    replace d9 := cell_later b d9
                    replace d10 := cell_later b d10
                    replace d11 := cell_later b d11
                    replace d12 := cell_later b d12
                    have B2 : Hid (Below w.heap.size w W2) := B1.out.trans (b.mono B1.out.size)
                    clear b
                    go_wp2_with fail
                    refine (C4.out _ B2.out).mono ?_
                    rintro e W3 ⟨rfl, b⟩
                    replace d0 := cell_later b d0
                    replace d1 := cell_later b d1
                    replace d2 := cell_later b d2
                    replace d3 := cell_later b d3
                    replace d4 := cell_later b d4
                    replace d5 := cell_later b d5
                    replace d6 := cell_later b d6
                    replace d7 := cell_later b d7
                    replace d8 := cell_later b d8
                    replace d9 := cell_later b d9
                    replace d10 := cell_later b d10
                    replace d11 := cell_later b d11
                    replace d12 := cell_later b d12
                    have B3 : Hid (Below w.heap.size w W3) := B2.out.trans (b.mono B2.out.size)
                    clear b
                    go_wp2_with fail
                    refine (C5.out _ B3.out).mono ?_
                    rintro e W4 ⟨rfl, b⟩
                    replace d0 := cell_later b d0
                    replace d1 := cell_later b d1
                    replace d2 := cell_later b d2
                    replace d3 := cell_later b d3
                    replace d4 := cell_later b d4
                    replace d5 := cell_later b d5
                    replace d6 := cell_later b d6
                    replace d7 := cell_later b d7
                    replace d8 := cell_later b d8
                    replace d9 := cell_later b d9
                    replace d10 := cell_later b d10
                    replace d11 := cell_later b d11
                    replace d12 := cell_later b d12
                    have B4 : Hid (Below w.heap.size w W4) := B3.out.trans (b.mono B3.out.size)
                    clear b
                    go_wp2_with fail
                    refine (C6.out _ B4.out).mono ?_
                    rintro e W5 ⟨rfl, b⟩
                    replace d0 := cell_later b d0
                    replace d1 := cell_later b d1
                    replace d2 := cell_later b d2
                    replace d3 := cell_later b d3
                    replace d4 := cell_later b d4
                    replace d5 := cell_later b d5
                    replace d6 := cell_later b d6
                    replace d7 := cell_later b d7
                    replace d8 := cell_later b d8
                    replace d9 := cell_later b d9
                    replace d10 := cell_later b d10
                    replace d11 := cell_later b d11
                    replace d12 := cell_later b d12
                    have B5 : Hid (Below w.heap.size w W5) := B4.out.trans (b.mono B4.out.size)
                    clear b
                    go_wp2_with fail
                    refine (C7.out _ B5.out).mono ?_
                    rintro e W6 ⟨rfl, b⟩
                    replace d0 := cell_later b d0
                    replace d1 := cell_later b d1
                    replace d2 := cell_later b d2
                    replace d3 := cell_later b d3
                    replace d4 := cell_later b d4
                    replace d5 := cell_later b d5
                    replace d6 := cell_later b d6
                    replace d7 := cell_later b d7
                    replace d8 := cell_later b d8
                    replace d9 := cell_later b d9
                    replace d10 := cell_later b d10
                    replace d11 := cell_later b d11
                    replace d12 := cell_later b d12
                    have B6 : Hid (Below w.heap.size w W6) := B5.out.trans (b.mono B5.out.size)
                    clear b
                    go_wp2_with fail
                    refine (C8.out _ B6.out).mono ?_
                    rintro e W7 ⟨rfl, b⟩
                    replace d0 := cell_later b d0
                    replace d1 := cell_later b d1
                    replace d2 := cell_later b d2
                    replace d3 := cell_later b d3
                    replace d4 := cell_later b d4
                    replace d5 := cell_later b d5
                    replace d6 := cell_later b d6
                    replace d7 := cell_later b d7
                    replace d8 := cell_later b d8
                    replace d9 := cell_later b d9
                    replace d10 := cell_later b d10
                    replace d11 := cell_later b d11
                    replace d12 := cell_later b d12
                    have B7 : Hid (Below w.heap.size w W7) := B6.out.trans (b.mono B6.out.size)
                    clear b
                    go_wp2_with fail
                    go_ret
                    exact ⟨by rw [HR.out]; rfl, B7.out⟩
                  | true =>
                    cases t9 with
                    | false =>
                      go_enter Try.func30, Try.ntmps30
                      go_wp2_with fail
                      obtain ⟨W0, hW0⟩ : ∃ W0, w.alloc (.cells #[.string qa, vqb, vqc, vqd, vqe, vqf, vqg, vqh, vqi, vqj, .int .i64 qk, .int .i64 ql, .int .i64 qm] 52) = W0 := ⟨_, rfl⟩
                      have d0 : W0.cell? ⟨w.heap.size, 0, none⟩ = some (.string qa) := by rw [← hW0, World.cell?_alloc_new]; rfl
                      have d1 : W0.cell? ⟨w.heap.size, 1, none⟩ = some (vqb) := by rw [← hW0, World.cell?_alloc_new]; rfl
                      have d2 : W0.cell? ⟨w.heap.size, 2, none⟩ = some (vqc) := by rw [← hW0, World.cell?_alloc_new]; rfl
                      have d3 : W0.cell? ⟨w.heap.size, 3, none⟩ = some (vqd) := by rw [← hW0, World.cell?_alloc_new]; rfl
                      have d4 : W0.cell? ⟨w.heap.size, 4, none⟩ = some (vqe) := by rw [← hW0, World.cell?_alloc_new]; rfl
                      have d5 : W0.cell? ⟨w.heap.size, 5, none⟩ = some (vqf) := by rw [← hW0, World.cell?_alloc_new]; rfl
                      have d6 : W0.cell? ⟨w.heap.size, 6, none⟩ = some (vqg) := by rw [← hW0, World.cell?_alloc_new]; rfl
                      have d7 : W0.cell? ⟨w.heap.size, 7, none⟩ = some (vqh) := by rw [← hW0, World.cell?_alloc_new]; rfl
                      have d8 : W0.cell? ⟨w.heap.size, 8, none⟩ = some (vqi) := by rw [← hW0, World.cell?_alloc_new]; rfl
                      have d9 : W0.cell? ⟨w.heap.size, 9, none⟩ = some (vqj) := by rw [← hW0, World.cell?_alloc_new]; rfl
                      have d10 : W0.cell? ⟨w.heap.size, 10, none⟩ = some (.int .i64 qk) := by rw [← hW0, World.cell?_alloc_new]; rfl
                      have d11 : W0.cell? ⟨w.heap.size, 11, none⟩ = some (.int .i64 ql) := by rw [← hW0, World.cell?_alloc_new]; rfl
                      have d12 : W0.cell? ⟨w.heap.size, 12, none⟩ = some (.int .i64 qm) := by rw [← hW0, World.cell?_alloc_new]; rfl
                      have B0 : Hid (Below w.heap.size w W0) := by rw [← hW0]; exact (Below.refl _ _).alloc (Nat.le_refl _) _
                      rw [hW0]
                      clear hW0
                      refine (C0.out _).mono ?_
                      rintro e W ⟨rfl, h⟩
                      have h := h.symm
                      subst h
                      go_wp2_with fail
                      refine (C1.out _).mono ?_
                      rintro e W ⟨rfl, h⟩
                      have h := h.symm
                      subst h
                      go_wp2_with fail
                      refine (C2.out _).mono ?_
                      rintro e W1 ⟨rfl, b⟩
                      replace d0 := cell_later b d0
                      replace d1 := cell_later b d1
                      replace d2 := cell_later b d2
                      replace d3 := cell_later b d3
                      replace d4 := cell_later b d4
                      replace d5 := cell_later b d5
                      replace d6 := cell_later b d6
                      replace d7 := cell_later b d7
                      replace d8 := cell_later b d8
                      replace d9 := cell_later b d9
                      replace d10 := cell_later b d10
                      replace d11 := cell_later b d11
                      replace d12 := cell_later b d12
                      have B1 : Hid (Below w.heap.size w W1) := B0.out.trans (b.mono B0.out.size)
                      clear b
                      go_wp2_with fail
                      refine (C3.out _ B1.out).mono ?_
                      rintro e W2 ⟨rfl, b⟩
                      replace d0 := cell_later b d0
                      replace d1 := cell_later b d1
                      replace d2 := cell_later b d2
                      replace d3 := cell_later b d3
                      replace d4 := cell_later b d4
                      replace d5 := cell_later b d5
                      replace d6 := cell_later b d6
                      replace d7 := cell_later b d7
                      replace d8 := cell_later b d8
                      replace d9 := cell_later b d9
                      replace d10 := cell_later b d10
                      replace d11 := cell_later b d11
                      replace d12 := cell_later b d12
                      have B2 : Hid (Below w.heap.size w W2) := B1.out.trans (b.mono B1.out.size)
                      clear b
                      go_wp2_with fail
                      refine (C4.out _ B2.out).mono ?_
                      rintro e W3 ⟨rfl, b⟩
                      replace d0 := cell_later b d0
                      replace d1 := cell_later b d1
                      replace d2 := cell_later b d2
                      replace d3 := cell_later b d3
                      replace d4 := cell_later b d4
                      replace d5 := cell_later b d5
                      replace d6 := cell_later b d6
                      replace d7 := cell_later b d7
                      replace d8 := cell_later b d8
                      replace d9 := cell_later b d9
                      replace d10 := cell_later b d10
                      replace d11 := cell_later b d11
                      replace d12 := cell_later b d12
                      have B3 : Hid (Below w.heap.size w W3) := B2.out.trans (b.mono B2.out.size)
                      clear b
                      go_wp2_with fail
                      refine (C5.out _ B3.out).mono ?_
                      rintro e W4 ⟨rfl, b⟩
                      replace d0 := cell_later b d0
                      replace d1 := cell_later b d1
                      replace d2 := cell_later b d2
                      replace d3 := cell_later b d3
                      replace d4 := cell_later b d4
                      replace d5 := cell_later b d5
                      replace d6 := cell_later b d6
                      replace d7 := cell_later b d7
                      replace d8 := cell_later b d8
                      replace d9 := cell_later b d9
                      replace d10 := cell_later b d10
                      replace d11 := cell_later b d11
                      replace d12 := cell_later b d12
                      have B4 : Hid (Below w.heap.size w W4) := B3.out.trans (b.mono B3.out.size)
                      clear b
                      go_wp2_with fail
                      refine (C6.out _ B4.out).mono ?_
                      rintro e W5 ⟨rfl, b⟩
                      replace d0 := cell_later b d0
                      replace d1 := cell_later b d1
                      replace d2 := cell_later b d2
                      replace d3 := cell_later b d3
                      replace d4 := cell_later b d4
                      replace d5 := cell_later b d5
                      replace d6 := cell_later b d6
                      replace d7 := cell_later b d7
                      replace d8 := cell_later b d8
                      replace d9 := cell_later b d9
                      replace d10 := cell_later b d10
                      replace d11 := cell_later b d11
                      replace d12 := cell_later b d12
                      have B5 : Hid (Below w.heap.size w W5) := B4.out.trans (b.mono B4.out.size)
                      clear b
                      go_wp2_with fail
                      refine (C7.out _ B5.out).mono ?_
                      rintro e W6 ⟨rfl, b⟩
                      replace d0 := cell_later b d0
                      replace d1 := cell_later b d1
                      replace d2 := cell_later b d2
                      replace d3 := cell_later b d3
                      replace d4 := cell_later b d4
                      replace d5 := cell_later b d5
                      replace d6 := cell_later b d6
                      replace d7 := cell_later b d7
                      replace d8 := cell_later b d8
                      replace d9 := cell_later b d9
                      replace d10 := cell_later b d10
                      replace d11 := cell_later b d11
                      replace d12 := cell_later b d12
                      have B6 : Hid (Below w.heap.size w W6) := B5.out.trans (b.mono B5.out.size)
                      clear b
                      go_wp2_with fail
                      refine (C8.out _ B6.out).mono ?_
                      rintro e W7 ⟨rfl, b⟩
                      replace d0 := cell_later b d0
                      replace d1 := cell_later b d1
                      replace d2 := cell_later b d2
                      replace d3 := cell_later b d3
                      replace d4 := cell_later b d4
                      replace d5 := cell_later b d5
                      replace d6 := cell_later b d6
                      replace d7 := cell_later b d7
                      replace d8 := cell_later b d8
                      replace d9 := cell_later b d9
                      replace d10 := cell_later b d10
                      replace d11 := cell_later b d11
                      replace d12 := cell_later b d12
                      have B7 : Hid (Below w.heap.size w W7) := B6.out.trans (b.mono B6.out.size)
                      clear b
                      go_wp2_with fail
                      refine (C9.out _ B7.out).mono ?_
                      rintro e W8 ⟨rfl, b⟩
                      replace d0 := cell_later b d0
                      replace d1 := cell_later b d1
                      replace d2 := cell_later b d2
                      replace d3 := cell_later b d3
                      replace d4 := cell_later b d4
                      replace d5 := cell_later b d5
                      replace d6 := cell_later b d6
                      replace d7 := cell_later b d7
                      replace d8 := cell_later b d8
                      replace d9 := cell_later b d9
                      replace d10 := cell_later b d10
                      replace d11 := cell_later b d11
                      replace d12 := cell_later b d12
                      have B8 : Hid (Below w.heap.size w W8) := B7.out.trans (b.mono B7.out.size)
                      clear b
                      go_wp2_with fail
                      go_ret
                      exact ⟨by rw [HR.out]; rfl, B8.out⟩
                    | true =>
                      cases t10 with
                      | false =>
                        go_enter Try.func30, Try.ntmps30
                        go_wp2_with fail
                        obtain ⟨W0, hW0⟩ : ∃ W0, w.alloc (.cells #[.string qa, vqb, vqc, vqd, vqe, vqf, vqg, vqh, vqi, vqj, .int .i64 qk, .int .i64 ql, .int .i64 qm] 52) = W0 := ⟨_, rfl⟩
                        have d0 : W0.cell? ⟨w.heap.size, 0, none⟩ = some (.string qa) := by rw [← hW0, World.cell?_alloc_new]; rfl
                        have d1 : W0.cell? ⟨w.heap.size, 1, none⟩ = some (vqb) := by rw [← hW0, World.cell?_alloc_new]; rfl
                        have d2 : W0.cell? ⟨w.heap.size, 2, none⟩ = some (vqc) := by rw [← hW0, World.cell?_alloc_new]; rfl
                        have d3 : W0.cell? ⟨w.heap.size, 3, none⟩ = some (vqd) := by rw [← hW0, World.cell?_alloc_new]; rfl
                        have d4 : W0.cell? ⟨w.heap.size, 4, none⟩ = some (vqe) := by rw [← hW0, World.cell?_alloc_new]; rfl
                        have d5 : W0.cell? ⟨w.heap.size, 5, none⟩ = some (vqf) := by rw [← hW0, World.cell?_alloc_new]; rfl
                        have d6 : W0.cell? ⟨w.heap.size, 6, none⟩ = some (vqg) := by rw [← hW0, World.cell?_alloc_new]; rfl
                        have d7 : W0.cell? ⟨w.heap.size, 7, none⟩ = some (vqh) := by rw [← hW0, World.cell?_alloc_new]; rfl
                        have d8 : W0.cell? ⟨w.heap.size, 8, none⟩ = some (vqi) := by rw [← hW0, World.cell?_alloc_new]; rfl
                        have d9 : W0.cell? ⟨w.heap.size, 9, none⟩ = some (vqj) := by rw [← hW0, World.cell?_alloc_new]; rfl
                        have d10 : W0.cell? ⟨w.heap.size, 10, none⟩ = some (.int .i64 qk) := by rw [← hW0, World.cell?_alloc_new]; rfl
                        have d11 : W0.cell? ⟨w.heap.size, 11, none⟩ = some (.int .i64 ql) := by rw [← hW0, World.cell?_alloc_new]; rfl
                        have d12 : W0.cell? ⟨w.heap.size, 12, none⟩ = some (.int .i64 qm) := by rw [← hW0, World.cell?_alloc_new]; rfl
                        have B0 : Hid (Below w.heap.size w W0) := by rw [← hW0]; exact (Below.refl _ _).alloc (Nat.le_refl _) _
                        rw [hW0]
                        clear hW0
                        refine (C0.out _).mono ?_
                        rintro e W ⟨rfl, h⟩
                        have h := h.symm
                        subst h
                        go_wp2_with fail
                        refine (C1.out _).mono ?_
                        rintro e W ⟨rfl, h⟩
                        have h := h.symm
                        subst h
                        go_wp2_with fail
                        refine (C2.out _).mono ?_
                        rintro e W1 ⟨rfl, b⟩
                        replace d0 := cell_later b d0
                        replace d1 := cell_later b d1
                        replace d2 := cell_later b d2
                        replace d3 := cell_later b d3
                        replace d4 := cell_later b d4
                        replace d5 := cell_later b d5
                        replace d6 := cell_later b d6
                        replace d7 := cell_later b d7
                        replace d8 := cell_later b d8
                        replace d9 := cell_later b d9
                        replace d10 := cell_later b d10
                        replace d11 := cell_later b d11
                        replace d12 := cell_later b d12
                        have B1 : Hid (Below w.heap.size w W1) := B0.out.trans (b.mono B0.out.size)
                        clear b
                        go_wp2_with fail
                        refine (C3.out _ B1.out).mono ?_
                        rintro e W2 ⟨rfl, b⟩
                        replace d0 := cell_later b d0
                        replace d1 := cell_later b d1
                        replace d2 := cell_later b d2
                        replace d3 := cell_later b d3
                        replace d4 := cell_later b d4
                        replace d5 := cell_later b d5
                        replace d6 := cell_later b d6
                        replace d7 := cell_later b d7
                        replace d8 := cell_later b d8
                        replace d9 := cell_later b d9
                        replace d10 := cell_later b d10
                        replace d11 := cell_later b d11
                        replace d12 := cell_later b d12
                        have B2 : Hid (Below w.heap.size w W2) := B1.out.trans (b.mono B1.out.size)
                        clear b
                        go_wp2_with fail
                        refine (C4.out _ B2.out).mono ?_
                        rintro e W3 ⟨rfl, b⟩
                        replace d0 := cell_later b d0
                        replace d1 := cell_later b d1
                        replace d2 := cell_later b d2
                        replace d3 := cell_later b d3
                        replace d4 := cell_later b d4
                        replace d5 := cell_later b d5
                        replace d6 := cell_later b d6
                        replace d7 := cell_later b d7
                        replace d8 := cell_later b d8
                        replace d9 := cell_later b d9
                        replace d10 := cell_later b d10
                        replace d11 := cell_later b d11
                        replace d12 := cell_later b d12
                        have B3 : Hid (Below w.heap.size w W3) := B2.out.trans (b.mono B2.out.size)
                        clear b
                        go_wp2_with fail
                        refine (C5.out _ B3.out).mono ?_
                        rintro e W4 ⟨rfl, b⟩
                        replace d0 := cell_later b d0
                        replace d1 := cell_later b d1
                        replace d2 := cell_later b d2
                        replace d3 := cell_later b d3
                        replace d4 := cell_later b d4
                        replace d5 := cell_later b d5
                        replace d6 := cell_later b d6
                        replace d7 := cell_later b d7
                        replace d8 := cell_later b d8
                        replace d9 := cell_later b d9
                        replace d10 := cell_later b d10
                        replace d11 := cell_later b d11
                        replace d12 := cell_later b d12
                        have B4 : Hid (Below w.heap.size w W4) := B3.out.trans (b.mono B3.out.size)
                        clear b
                        go_wp2_with fail
                        refine (C6.out _ B4.out).mono ?_
                        rintro e W5 ⟨rfl, b⟩
                        replace d0 := cell_later b d0
                        replace d1 := cell_later b d1
                        replace d2 := cell_later b d2
                        replace d3 := cell_later b d3
                        replace d4 := cell_later b d4
                        replace d5 := cell_later b d5
                        replace d6 := cell_later b d6
                        replace d7 := cell_later b d7
                        replace d8 := cell_later b d8
                        replace d9 := cell_later b d9
                        replace d10 := cell_later b d10
                        replace d11 := cell_later b d11
                        replace d12 := cell_later b d12
                        have B5 : Hid (Below w.heap.size w W5) := B4.out.trans (b.mono B4.out.size)
                        clear b
                        go_wp2_with fail
                        refine (C7.out _ B5.out).mono ?_
                        rintro e W6 ⟨rfl, b⟩
                        replace d0 := cell_later b d0
                        replace d1 := cell_later b d1
                        replace d2 := cell_later b d2
                        replace d3 := cell_later b d3
                        replace d4 := cell_later b d4
                        replace d5 := cell_later b d5
                        replace d6 := cell_later b d6
                        replace d7 := cell_later b d7
                        replace d8 := cell_later b d8
                        replace d9 := cell_later b d9
                        replace d10 := cell_later b d10
                        replace d11 := cell_later b d11
                        replace d12 := cell_later b d12
                        have B6 : Hid (Below w.heap.size w W6) := B5.out.trans (b.mono B5.out.size)
                        clear b
                        go_wp2_with fail
                        refine (C8.out _ B6.out).mono ?_
                        rintro e W7 ⟨rfl, b⟩
                        replace d0 := cell_later b d0
                        replace d1 := cell_later b d1
                        replace d2 := cell_later b d2
                        replace d3 := cell_later b d3
                        replace d4 := cell_later b d4
                        replace d5 := cell_later b d5
                        replace d6 := cell_later b d6
                        replace d7 := cell_later b d7
                        replace d8 := cell_later b d8
                        replace d9 := cell_later b d9
                        replace d10 := cell_later b d10
                        replace d11 := cell_later b d11
                        replace d12 := cell_later b d12
                        have B7 : Hid (Below w.heap.size w W7) := B6.out.trans (b.mono B6.out.size)
                        clear b
                        go_wp2_with fail
                        refine (C9.out _ B7.out).mono ?_
                        rintro e W8 ⟨rfl, b⟩
                        replace d0 := cell_later b d0
                        replace d1 := cell_later b d1
                        replace d2 := cell_later b d2
                        replace d3 := cell_later b d3
                        replace d4 := cell_later b d4
                        replace d5 := cell_later b d5
                        replace d6 := cell_later b d6
                        replace d7 := cell_later b d7
                        replace d8 := cell_later b d8
                        replace d9 := cell_later b d9
                        replace d10 := cell_later b d10
                        replace d11 := cell_later b d11
                        replace d12 := cell_later b d12
                        have B8 : Hid (Below w.heap.size w W8) := B7.out.trans (b.mono B7.out.size)
                        clear b
                        go_wp2_with fail
                        refine (C10.out _ B8.out).mono ?_
                        rintro e W9 ⟨rfl, b⟩
                        replace d0 := cell_later b d0
                        replace d1 := cell_later b d1
                        replace d2 := cell_later b d2
                        replace d3 := cell_later b d3
                        replace d4 := cell_later b d4
                        replace d5 := cell_later b d5
                        replace d6 := cell_later b d6
                        replace d7 := cell_later b d7
                        replace d8 := cell_later b d8
                        replace d9 := cell_later b d9
                        replace d10 := cell_later b d10
                        replace d11 := cell_later b d11
                        replace d12 := cell_later b d12
                        have B9 : Hid (Below w.heap.size w W9) := B8.out.trans (b.mono B8.out.size)
                        clear b
                        go_wp2_with fail
                        go_ret
                        exact ⟨by rw [HR.out]; rfl, B9.out⟩
                      | true =>
                        cases t11 with
                        | false =>
                          go_enter Try.func30, Try.ntmps30
                          go_wp2_with fail
                          obtain ⟨W0, hW0⟩ : ∃ W0, w.alloc (.cells #[.string qa, vqb, vqc, vqd, vqe, vqf, vqg, vqh, vqi, vqj, .int .i64 qk, .int .i64 ql, .int .i64 qm] 52) = W0 := ⟨_, rfl⟩
                          have d0 : W0.cell? ⟨w.heap.size, 0, none⟩ = some (.string qa) := by rw [← hW0, World.cell?_alloc_new]; rfl
                          have d1 : W0.cell? ⟨w.heap.size, 1, none⟩ = some (vqb) := by rw [← hW0, World.cell?_alloc_new]; rfl
                          have d2 : W0.cell? ⟨w.heap.size, 2, none⟩ = some (vqc) := by rw [← hW0, World.cell?_alloc_new]; rfl
                          have d3 : W0.cell? ⟨w.heap.size, 3, none⟩ = some (vqd) := by rw [← hW0, World.cell?_alloc_new]; rfl
                          have d4 : W0.cell? ⟨w.heap.size, 4, none⟩ = some (vqe) := by rw [← hW0, World.cell?_alloc_new]; rfl
                          have d5 : W0.cell? ⟨w.heap.size, 5, none⟩ = some (vqf) := by rw [← hW0, World.cell?_alloc_new]; rfl
                          have d6 : W0.cell? ⟨w.heap.size, 6, none⟩ = some (vqg) := by rw [← hW0, World.cell?_alloc_new]; rfl
                          have d7 : W0.cell? ⟨w.heap.size, 7, none⟩ = some (vqh) := by rw [← hW0, World.cell?_alloc_new]; rfl
                          have d8 : W0.cell? ⟨w.heap.size, 8, none⟩ = some (vqi) := by rw [← hW0, World.cell?_alloc_new]; rfl
                          have d9 : W0.cell? ⟨w.heap.size, 9, none⟩ = some (vqj) := by rw [← hW0, World.cell?_alloc_new]; rfl
                          have d10 : W0.cell? ⟨w.heap.size, 10, none⟩ = some (.int .i64 qk) := by rw [← hW0, World.cell?_alloc_new]; rfl
                          have d11 : W0.cell? ⟨w.heap.size, 11, none⟩ = some (.int .i64 ql) := by rw [← hW0, World.cell?_alloc_new]; rfl
                          have d12 : W0.cell? ⟨w.heap.size, 12, none⟩ = some (.int .i64 qm) := by rw [← hW0, World.cell?_alloc_new]; rfl
                          have B0 : Hid (Below w.heap.size w W0) := by rw [← hW0]; exact (Below.refl _ _).alloc (Nat.le_refl _) _
                          rw [hW0]
                          clear hW0
                          refine (C0.out _).mono ?_
                          rintro e W ⟨rfl, h⟩
                          have h := h.symm
                          subst h
                          go_wp2_with fail
                          refine (C1.out _).mono ?_
                          rintro e W ⟨rfl, h⟩
                          have h := h.symm
                          subst h
                          go_wp2_with fail
                          refine (C2.out _).mono ?_
                          rintro e W1 ⟨rfl, b⟩
                          replace d0 := cell_later b d0
                          replace d1 := cell_later b d1
                          replace d2 := cell_later b d2
                          replace d3 := cell_later b d3
                          replace d4 := cell_later b d4
                          replace d5 := cell_later b d5
                          replace d6 := cell_later b d6
                          replace d7 := cell_later b d7
                          replace d8 := cell_later b d8
                          replace d9 := cell_later b d9
                          replace d10 := cell_later b d10
                          replace d11 := cell_later b d11
                          replace d12 := cell_later b d12
                          have B1 : Hid (Below w.heap.size w W1) := B0.out.trans (b.mono B0.out.size)
                          clear b
                          go_wp2_with fail
                          refine (C3.out _ B1.out).mono ?_
                          rintro e W2 ⟨rfl, b⟩
                          replace d0 := cell_later b d0
                          replace d1 := cell_later b d1
                          replace d2 := cell_later b d2
                          replace d3 := cell_later b d3
                          replace d4 := cell_later b d4
                          replace d5 := cell_later b d5
                          replace d6 := cell_later b d6
                          replace d7 := cell_later b d7
                          replace d8 := cell_later b d8
                          replace d9 := cell_later b d9
                          replace d10 := cell_later b d10
                          replace d11 := cell_later b d11
                          replace d12 := cell_later b d12
                          have B2 : Hid (Below w.heap.size w W2) := B1.out.trans (b.mono B1.out.size)
                          clear b
                          go_wp2_with fail
                          refine (C4.out _ B2.out).mono ?_
                          rintro e W3 ⟨rfl, b⟩
                          replace d0 := cell_later b d0
                          replace d1 := cell_later b d1
                          replace d2 := cell_later b d2
                          replace d3 := cell_later b d3
                          replace d4 := cell_later b d4
                          replace d5 := cell_later b d5
                          replace d6 := cell_later b d6
                          replace d7 := cell_later b d7
                          replace d8 := cell_later b d8
                          replace d9 := cell_later b d9
                          replace d10 := cell_later b d10
                          replace d11 := cell_later b d11
                          replace d12 := cell_later b d12
                          have B3 : Hid (Below w.heap.size w W3) := B2.out.trans (b.mono B2.out.size)
                          clear b
                          go_wp2_with fail
                          refine (C5.out _ B3.out).mono ?_
                          rintro e W4 ⟨rfl, b⟩
                          replace d0 := cell_later b d0
                          replace d1 := cell_later b d1
                          replace d2 := cell_later b d2
                          replace d3 := cell_later b d3
                          replace d4 := cell_later b d4
                          replace d5 := cell_later b d5
                          replace d6 := cell_later b d6
                          replace d7 := cell_later b d7
                          replace d8 := cell_later b d8
                          replace d9 := cell_later b d9
                          replace d10 := cell_later b d10
                          replace d11 := cell_later b d11
                          replace d12 := cell_later b d12
                          have B4 : Hid (Below w.heap.size w W4) := B3.out.trans (b.mono B3.out.size)
                          clear b
                          go_wp2_with fail
                          refine (C6.out _ B4.out).mono ?_
                          rintro e W5 ⟨rfl, b⟩
                          replace d0 := cell_later b d0
                          replace d1 := cell_later b d1
                          replace d2 := cell_later b d2
                          replace d3 := cell_later b d3
                          replace d4 := cell_later b d4
                          replace d5 := cell_later b d5
                          replace d6 := cell_later b d6
                          replace d7 := cell_later b d7
                          replace d8 := cell_later b d8
                          replace d9 := cell_later b d9
                          replace d10 := cell_later b d10
                          replace d11 := cell_later b d11
                          replace d12 := cell_later b d12
                          have B5 : Hid (Below w.heap.size w W5) := B4.out.trans (b.mono B4.out.size)
                          clear b
                          go_wp2_with fail
                          refine (C7.out _ B5.out).mono ?_
                          rintro e W6 ⟨rfl, b⟩
                          replace d0 := cell_later b d0
                          replace d1 := cell_later b d1
                          replace d2 := cell_later b d2
                          replace d3 := cell_later b d3
                          replace d4 := cell_later b d4
                          replace d5 := cell_later b d5
                          replace d6 := cell_later b d6
                          replace d7 := cell_later b d7
                          replace d8 := cell_later b d8
                          replace d9 := cell_later b d9
                          replace d10 := cell_later b d10
                          replace d11 := cell_later b d11
                          replace d12 := cell_later b d12
                          have B6 : Hid (Below w.heap.size w W6) := B5.out.trans (b.mono B5.out.size)
                          clear b
                          go_wp2_with fail
                          refine (C8.out _ B6.out).mono ?_
                          rintro e W7 ⟨rfl, b⟩
                          replace d0 := cell_later b d0
                          replace d1 := cell_later b d1
                          replace d2 := cell_later b d2
                          replace d3 := cell_later b d3
                          replace d4 := cell_later b d4
                          replace d5 := cell_later b d5
                          replace d6 := cell_later b d6
                          replace d7 := cell_later b d7
                          replace d8 := cell_later b d8
                          replace d9 := cell_later b d9
                          replace d10 := cell_later b d10
                          replace d11 := cell_later b d11
                          replace d12 := cell_later b d12
                          have B7 : Hid (Below w.heap.size w W7) := B6.out.trans (b.mono B6.out.size)
                          clear b
                          go_wp2_with fail
                          refine (C9.out _ B7.out).mono ?_
                          rintro e W8 ⟨rfl, b⟩
                          replace d0 := cell_later b d0
                          replace d1 := cell_later b d1
                          replace d2 := cell_later b d2
                          replace d3 := cell_later b d3
                          replace d4 := cell_later b d4
                          replace d5 := cell_later b d5
                          replace d6 := cell_later b d6
                          replace d7 := cell_later b d7
                          replace d8 := cell_later b d8
                          replace d9 := cell_later b d9
                          replace d10 := cell_later b d10
                          replace d11 := cell_later b d11
                          replace d12 := cell_later b d12
                          have B8 : Hid (Below w.heap.size w W8) := B7.out.trans (b.mono B7.out.size)
                          clear b
                          go_wp2_with fail
                          refine (C10.out _ B8.out).mono ?_
                          rintro e W9 ⟨rfl, b⟩
                          replace d0 := cell_later b d0
                          replace d1 := cell_later b d1
                          replace d2 := cell_later b d2
                          replace d3 := cell_later b d3
                          replace d4 := cell_later b d4
                          replace d5 := cell_later b d5
                          replace d6 := cell_later b d6
                          replace d7 := cell_later b d7
                          replace d8 := cell_later b d8
                          replace d9 := cell_later b d9
                          replace d10 := cell_later b d10
                          replace d11 := cell_later b d11
                          replace d12 := cell_later b d12
                          have B9 : Hid (Below w.heap.size w W9) := B8.out.trans (b.mono B8.out.size)
                          clear b
                          go_wp2_with fail
                          refine (C11.out _ B9.out).mono ?_
                          rintro e W10 ⟨rfl, b⟩
                          replace d0 := cell_later b d0
                          replace d1 := cell_later b d1
                          replace d2 := cell_later b d2
                          replace d3 := cell_later b d3
                          replace d4 := cell_later b d4
                          replace d5 := cell_later b d5
                          replace d6 := cell_later b d6
                          replace d7 := cell_later b d7
                          replace d8 := cell_later b d8
                          replace d9 := cell_later b d9
                          replace d10 := cell_later b d10
                          replace d11 := cell_later b d11
                          replace d12 := cell_later b d12
                          have B10 : Hid (Below w.heap.size w W10) := B9.out.trans (b.mono B9.out.size)
                          clear b
                          go_wp2_with fail
                          go_ret
                          exact ⟨by rw [HR.out]; rfl, B10.out⟩
                        | true =>
                          go_enter Try.func30, Try.ntmps30
                          go_wp2_with fail
                          obtain ⟨W0, hW0⟩ : ∃ W0, w.alloc (.cells #[.string qa, vqb, vqc, vqd, vqe, vqf, vqg, vqh, vqi, vqj, .int .i64 qk, .int .i64 ql, .int .i64 qm] 52) = W0 := ⟨_, rfl⟩
                          have d0 : W0.cell? ⟨w.heap.size, 0, none⟩ = some (.string qa) := by rw [← hW0, World.cell?_alloc_new]; rfl
                          have d1 : W0.cell? ⟨w.heap.size, 1, none⟩ = some (vqb) := by rw [← hW0, World.cell?_alloc_new]; rfl
                          have d2 : W0.cell? ⟨w.heap.size, 2, none⟩ = some (vqc) := by rw [← hW0, World.cell?_alloc_new]; rfl
                          have d3 : W0.cell? ⟨w.heap.size, 3, none⟩ = some (vqd) := by rw [← hW0, World.cell?_alloc_new]; rfl
                          have d4 : W0.cell? ⟨w.heap.size, 4, none⟩ = some (vqe) := by rw [← hW0, World.cell?_alloc_new]; rfl
                          have d5 : W0.cell? ⟨w.heap.size, 5, none⟩ = some (vqf) := by rw [← hW0, World.cell?_alloc_new]; rfl
                          have d6 : W0.cell? ⟨w.heap.size, 6, none⟩ = some (vqg) := by rw [← hW0, World.cell?_alloc_new]; rfl
                          have d7 : W0.cell? ⟨w.heap.size, 7, none⟩ = some (vqh) := by rw [← hW0, World.cell?_alloc_new]; rfl
                          have d8 : W0.cell? ⟨w.heap.size, 8, none⟩ = some (vqi) := by rw [← hW0, World.cell?_alloc_new]; rfl
                          have d9 : W0.cell? ⟨w.heap.size, 9, none⟩ = some (vqj) := by rw [← hW0, World.cell?_alloc_new]; rfl
                          have d10 : W0.cell? ⟨w.heap.size, 10, none⟩ = some (.int .i64 qk) := by rw [← hW0, World.cell?_alloc_new]; rfl
                          have d11 : W0.cell? ⟨w.heap.size, 11, none⟩ = some (.int .i64 ql) := by rw [← hW0, World.cell?_alloc_new]; rfl
                          have d12 : W0.cell? ⟨w.heap.size, 12, none⟩ = some (.int .i64 qm) := by rw [← hW0, World.cell?_alloc_new]; rfl
                          have B0 : Hid (Below w.heap.size w W0) := by rw [← hW0]; exact (Below.refl _ _).alloc (Nat.le_refl _) _
                          rw [hW0]
                          clear hW0
                          refine (C0.out _).mono ?_
                          rintro e W ⟨rfl, h⟩
                          have h := h.symm
                          subst h
                          go_wp2_with fail
                          refine (C1.out _).mono ?_
                          rintro e W ⟨rfl, h⟩
                          have h := h.symm
                          subst h
                          go_wp2_with fail
                          refine (C2.out _).mono ?_
                          rintro e W1 ⟨rfl, b⟩
                          replace d0 := cell_later b d0
                          replace d1 := cell_later b d1
                          replace d2 := cell_later b d2
                          replace d3 := cell_later b d3
                          replace d4 := cell_later b d4
                          replace d5 := cell_later b d5
                          replace d6 := cell_later b d6
                          replace d7 := cell_later b d7
                          replace d8 := cell_later b d8
                          replace d9 := cell_later b d9
                          replace d10 := cell_later b d10
                          replace d11 := cell_later b d11
                          replace d12 := cell_later b d12
                          have B1 : Hid (Below w.heap.size w W1) := B0.out.trans (b.mono B0.out.size)
                          clear b
                          go_wp2_with fail
                          refine (C3.out _ B1.out).mono ?_
                          rintro e W2 ⟨rfl, b⟩
                          replace d0 := cell_later b d0
                          replace d1 := cell_later b d1
                          replace d2 := cell_later b d2
                          replace d3 := cell_later b d3
                          replace d4 := cell_later b d4
                          replace d5 := cell_later b d5
                          replace d6 := cell_later b d6
                          replace d7 := cell_later b d7
                          replace d8 := cell_later b d8
                          replace d9 := cell_later b d9
                          replace d10 := cell_later b d10
                          replace d11 := cell_later b d11
                          replace d12 := cell_later b d12
                          have B2 : Hid (Below w.heap.size w W2) := B1.out.trans (b.mono B1.out.size)
                          clear b
                          go_wp2_with fail
                          refine (C4.out _ B2.out).mono ?_
                          rintro e W3 ⟨rfl, b⟩
                          replace d0 := cell_later b d0
                          replace d1 := cell_later b d1
                          replace d2 := cell_later b d2
                          replace d3 := cell_later b d3
                          replace d4 := cell_later b d4
                          replace d5 := cell_later b d5
                          replace d6 := cell_later b d6
                          replace d7 := cell_later b d7
                          replace d8 := cell_later b d8
                          replace d9 := cell_later b d9
                          replace d10 := cell_later b d10
                          replace d11 := cell_later b d11
                          replace d12 := cell_later b d12
                          have B3 : Hid (Below w.heap.size w W3) := B2.out.trans (b.mono B2.out.size)
                          clear b
                          go_wp2_with fail
                          refine (C5.out _ B3.out).mono ?_
                          rintro e W4 ⟨rfl, b⟩
                          replace d0 := cell_later b d0
                          replace d1 := cell_later b d1
                          replace d2 := cell_later b d2
                          replace d3 := cell_later b d3
                          replace d4 := cell_later b d4
                          replace d5 := cell_later b d5
                          replace d6 := cell_later b d6
                          replace d7 := cell_later b d7
                          replace d8 := cell_later b d8
                          replace d9 := cell_later b d9
                          replace d10 := cell_later b d10
                          replace d11 := cell_later b d11
                          replace d12 := cell_later b d12
                          have B4 : Hid (Below w.heap.size w W4) := B3.out.trans (b.mono B3.out.size)
                          clear b
                          go_wp2_with fail
                          refine (C6.out _ B4.out).mono ?_
                          rintro e W5 ⟨rfl, b⟩
                          replace d0 := cell_later b d0
                          replace d1 := cell_later b d1
                          replace d2 := cell_later b d2
                          replace d3 := cell_later b d3
                          replace d4 := cell_later b d4
                          replace d5 := cell_later b d5
                          replace d6 := cell_later b d6
                          replace d7 := cell_later b d7
                          replace d8 := cell_later b d8
                          replace d9 := cell_later b d9
                          replace d10 := cell_later b d10
                          replace d11 := cell_later b d11
                          replace d12 := cell_later b d12
                          have B5 : Hid (Below w.heap.size w W5) := B4.out.trans (b.mono B4.out.size)
                          clear b
                          go_wp2_with fail
                          refine (C7.out _ B5.out).mono ?_
                          rintro e W6 ⟨rfl, b⟩
                          replace d0 := cell_later b d0
                          replace d1 := cell_later b d1
                          replace d2 := cell_later b d2
                          replace d3 := cell_later b d3
                          replace d4 := cell_later b d4
                          replace d5 := cell_later b d5
                          replace d6 := cell_later b d6
                          replace d7 := cell_later b d7
                          replace d8 := cell_later b d8
                          replace d9 := cell_later b d9
                          replace d10 := cell_later b d10
                          replace d11 := cell_later b d11
                          replace d12 := cell_later b d12
                          have B6 : Hid (Below w.heap.size w W6) := B5.out.trans (b.mono B5.out.size)
                          clear b
                          go_wp2_with fail
                          refine (C8.out _ B6.out).mono ?_
                          rintro e W7 ⟨rfl, b⟩
                          replace d0 := cell_later b d0
                          replace d1 := cell_later b d1
                          replace d2 := cell_later b d2
                          replace d3 := cell_later b d3
                          replace d4 := cell_later b d4
                          replace d5 := cell_later b d5
                          replace d6 := cell_later b d6
                          replace d7 := cell_later b d7
                          replace d8 := cell_later b d8
                          replace d9 := cell_later b d9
                          replace d10 := cell_later b d10
                          replace d11 := cell_later b d11
                          replace d12 := cell_later b d12
                          have B7 : Hid (Below w.heap.size w W7) := B6.out.trans (b.mono B6.out.size)
                          clear b
                          go_wp2_with fail
                          refine (C9.out _ B7.out).mono ?_
                          rintro e W8 ⟨rfl, b⟩
                          replace d0 := cell_later b d0
                          replace d1 := cell_later b d1
                          replace d2 := cell_later b d2
                          replace d3 := cell_later b d3
                          replace d4 := cell_later b d4
                          replace d5 := cell_later b d5
                          replace d6 := cell_later b d6
                          replace d7 := cell_later b d7
                          replace d8 := cell_later b d8
                          replace d9 := cell_later b d9
                          replace d10 := cell_later b d10
                          replace d11 := cell_later b d11
                          replace d12 := cell_later b d12
                          have B8 : Hid (Below w.heap.size w W8) := B7.out.trans (b.mono B7.out.size)
                          clear b
                          go_wp2_with fail
                          refine (C10.out _ B8.out).mono ?_
                          rintro e W9 ⟨rfl, b⟩
                          replace d0 := cell_later b d0
                          replace d1 := cell_later b d1
                          replace d2 := cell_later b d2
                          replace d3 := cell_later b d3
                          replace d4 := cell_later b d4
                          replace d5 := cell_later b d5
                          replace d6 := cell_later b d6
                          replace d7 := cell_later b d7
                          replace d8 := cell_later b d8
                          replace d9 := cell_later b d9
                          replace d10 := cell_later b d10
                          replace d11 := cell_later b d11
                          replace d12 := cell_later b d12
                          have B9 : Hid (Below w.heap.size w W9) := B8.out.trans (b.mono B8.out.size)
                          clear b
                          go_wp2_with fail
                          refine (C11.out _ B9.out).mono ?_
                          rintro e W10 ⟨rfl, b⟩
                          replace d0 := cell_later b d0
                          replace d1 := cell_later b d1
                          replace d2 := cell_later b d2
                          replace d3 := cell_later b d3
                          replace d4 := cell_later b d4
                          replace d5 := cell_later b d5
                          replace d6 := cell_later b d6
                          replace d7 := cell_later b d7
                          replace d8 := cell_later b d8
                          replace d9 := cell_later b d9
                          replace d10 := cell_later b d10
                          replace d11 := cell_later b d11
                          replace d12 := cell_later b d12
                          have B10 : Hid (Below w.heap.size w W10) := B9.out.trans (b.mono B9.out.size)
                          clear b
                          go_wp2_with fail
                          go_ret
                          exact ⟨by rw [HR.out]; rfl, B10.out⟩
structure AllPartitionRel (n : Nat) (xs : List MPartition) (w : World) (v : Value) (wr : World) : Prop where
  ex : ∃ k : Nat, k ≤ n ∧ v = .int .i64 (k : Int) ∧ (∀ (j : Nat) y, xs[j]? = some y → j < k → rightPartition y = true) ∧ Below w.heap.size w wr
set_option maxRecDepth 100000 in
set_option maxHeartbeats 4000000 in
theorem allPartition_any (v : Value) (xs : List MPartition) (most : Int) (w : World) (h : Row w 13 (RPartition w) v xs) :
    Calls Try.prog 29 #[v, .int .i64 most, .func (.func 30) #[] #[]] w fun e w' => e = .returned (.bool (allB most rightPartition xs)) ∧ Below w.heap.size w w' := by
  obtain ⟨a, cap, rfl, hm⟩ := h.form
  obtain ⟨n, hn⟩ : ∃ n, xs.length = n := ⟨_, rfl⟩
  rw [hn] at h hm ⊢
  have HN := Lib.hid hn
  have H := Lib.hid h
  unfold rowMax at hm
  clear hn h
  by_cases hgt : most < (n : Int)
  · have HR : Hid (allB most rightPartition xs = false) := by unfold Hid allB; rw [HN.out, decide_eq_false (by omega)]; rfl
    go_enter Try.func29, Try.ntmps29
    go_wp2_with fail
    go_ret
    exact ⟨by rw [HR.out]; rfl, Below.refl _ _⟩
  · have hgt' : (n : Int) ≤ most := by omega
    have HR : Hid (allB most rightPartition xs = xs.all rightPartition) := by unfold Hid allB; rw [HN.out, decide_eq_true hgt']; rfl
    go_enter Try.func29, Try.ntmps29
    go_wp2_with fail
    go_loopw [15] (fun v wr => AllPartitionRel n xs w v wr) (fun v => fun _ => n - (intOf v).toNat)
    case atStart => exact ⟨⟨0, Nat.zero_le _, rfl, fun j y _ h => by omega, Below.refl _ _⟩⟩
    case round =>
      obtain ⟨⟨k, hk, rfl, hall, hb⟩⟩ := hrel
      have HK := Lib.hid hk
      have HA := Lib.hid hall
      have HB := Lib.hid hb
      clear hk hall hb
      by_cases hlt : k < n
      · have hkI : (k : Int) < (n : Int) := by omega
        have HX : Hid (k < n) := hlt
        obtain ⟨hnx, b, off, x, cs, rfl, hbl, hx, hR, _, hc⟩ := H.out.at_ k hlt
        clear hnx
        have HXS := Lib.hid hx
        replace hR : RPartition wr x cs := hR.below HB.out
        obtain ⟨qa, qb, qc, qd, qe, qf, qg, qh, qi, qj, qk, ql, qm⟩ := x
        obtain ⟨vqb, vqc, vqd, vqe, vqf, vqg, vqh, vqi, vqj, rfl, hsqa, hqb, hqc, hqd, hqe, hqf, hqg, hqh, hqi, hqj⟩ := hR
        obtain ⟨aqb, cqb, rfl, hmqb⟩ := hqb.form
        clear hmqb
        obtain ⟨aqc, cqc, rfl, hmqc⟩ := hqc.form
        clear hmqc
        obtain ⟨aqd, cqd, rfl, hmqd⟩ := hqd.form
        clear hmqd
        obtain ⟨aqe, cqe, rfl, hmqe⟩ := hqe.form
        clear hmqe
        obtain ⟨aqf, cqf, rfl, hmqf⟩ := hqf.form
        clear hmqf
        obtain ⟨aqg, cqg, rfl, hmqg⟩ := hqg.form
        clear hmqg
        obtain ⟨aqh, cqh, rfl, hmqh⟩ := hqh.form
        clear hmqh
        obtain ⟨aqi, cqi, rfl, hmqi⟩ := hqi.form
        clear hmqi
        obtain ⟨aqj, cqj, rfl, hmqj⟩ := hqj.form
        clear hmqj
        have d0 : wr.cell? ⟨b, off + k * 13, none⟩ = some (.string qa) := cell_later HB.out (hc 0 _ rfl)
        have d1 : wr.cell? ⟨b, off + k * 13 + 1, none⟩ = some (.slice aqb qb.length cqb) := cell_later HB.out (hc 1 _ rfl)
        have d2 : wr.cell? ⟨b, off + k * 13 + 2, none⟩ = some (.slice aqc qc.length cqc) := cell_later HB.out (hc 2 _ rfl)
        have d3 : wr.cell? ⟨b, off + k * 13 + 3, none⟩ = some (.slice aqd qd.length cqd) := cell_later HB.out (hc 3 _ rfl)
        have d4 : wr.cell? ⟨b, off + k * 13 + 4, none⟩ = some (.slice aqe qe.length cqe) := cell_later HB.out (hc 4 _ rfl)
        have d5 : wr.cell? ⟨b, off + k * 13 + 5, none⟩ = some (.slice aqf qf.length cqf) := cell_later HB.out (hc 5 _ rfl)
        have d6 : wr.cell? ⟨b, off + k * 13 + 6, none⟩ = some (.slice aqg qg.length cqg) := cell_later HB.out (hc 6 _ rfl)
        have d7 : wr.cell? ⟨b, off + k * 13 + 7, none⟩ = some (.slice aqh qh.length cqh) := cell_later HB.out (hc 7 _ rfl)
        have d8 : wr.cell? ⟨b, off + k * 13 + 8, none⟩ = some (.slice aqi qi.length cqi) := cell_later HB.out (hc 8 _ rfl)
        have d9 : wr.cell? ⟨b, off + k * 13 + 9, none⟩ = some (.slice aqj qj.length cqj) := cell_later HB.out (hc 9 _ rfl)
        have d10 : wr.cell? ⟨b, off + k * 13 + 10, none⟩ = some (.int .i64 qk) := cell_later HB.out (hc 10 _ rfl)
        have d11 : wr.cell? ⟨b, off + k * 13 + 11, none⟩ = some (.int .i64 ql) := cell_later HB.out (hc 11 _ rfl)
        have d12 : wr.cell? ⟨b, off + k * 13 + 12, none⟩ = some (.int .i64 qm) := cell_later HB.out (hc 12 _ rfl)
        obtain ⟨t, ht⟩ : ∃ t, rightPartition ⟨qa, qb, qc, qd, qe, qf, qg, qh, qi, qj, qk, ql, qm⟩ = t := ⟨_, rfl⟩
        have HT := Lib.hid ht
        have C : Hid (Calls Try.prog 30 #[.agg #[.string qa, .slice aqb qb.length cqb, .slice aqc qc.length cqc, .slice aqd qd.length cqd, .slice aqe qe.length cqe, .slice aqf qf.length cqf, .slice aqg qg.length cqg, .slice aqh qh.length cqh, .slice aqi qi.length cqi, .slice aqj qj.length cqj, .int .i64 qk, .int .i64 ql, .int .i64 qm]] (wr.alloc (.cells #[.string qa, .slice aqb qb.length cqb, .slice aqc qc.length cqc, .slice aqd qd.length cqd, .slice aqe qe.length cqe, .slice aqf qf.length cqf, .slice aqg qg.length cqg, .slice aqh qh.length cqh, .slice aqi qi.length cqi, .slice aqj qj.length cqj, .int .i64 qk, .int .i64 ql, .int .i64 qm] 52)) fun e w' => e = .returned (.bool t) ∧ Below (wr.alloc (.cells #[.string qa, .slice aqb qb.length cqb, .slice aqc qc.length cqc, .slice aqd qd.length cqd, .slice aqe qe.length cqe, .slice aqf qf.length cqf, .slice aqg qg.length cqg, .slice aqh qh.length cqh, .slice aqi qi.length cqi, .slice aqj qj.length cqj, .int .i64 qk, .int .i64 ql, .int .i64 qm] 52)).heap.size (wr.alloc (.cells #[.string qa, .slice aqb qb.length cqb, .slice aqc qc.length cqc, .slice aqd qd.length cqd, .slice aqe qe.length cqe, .slice aqf qf.length cqf, .slice aqg qg.length cqg, .slice aqh qh.length cqh, .slice aqi qi.length cqi, .slice aqj qj.length cqj, .int .i64 qk, .int .i64 ql, .int .i64 qm] 52)) w') := by
          unfold Hid
          rw [← ht]; exact rightPartition_core qa qb qc qd qe qf qg qh qi qj qk ql qm (.slice aqb qb.length cqb) (.slice aqc qc.length cqc) (.slice aqd qd.length cqd) (.slice aqe qe.length cqe) (.slice aqf qf.length cqf) (.slice aqg qg.length cqg) (.slice aqh qh.length cqh) (.slice aqi qi.length cqi) (.slice aqj qj.length cqj) _ hsqa (hqb.alloc _) (hqc.alloc _) (hqd.alloc _) (hqe.alloc _) (hqf.alloc _) (hqg.alloc _) (hqh.alloc _) (hqi.alloc _) (hqj.alloc _)
        clear hc ht hlt hsqa hqb hqc hqd hqe hqf hqg hqh hqi hqj
        go_wp2_with fail
        refine C.out.mono ?_
        rintro e W1 ⟨rfl, b1⟩
        have HB1 : Hid (Below w.heap.size w W1) := (HB.out.alloc HB.out.size _).trans (b1.mono (by have := HB.out.size; simp; omega))
        clear b1 C
        cases t with
        | true =>
          go_wp2_with fail
          go_roundw
          case rel =>
            have Q : AllPartitionRel n xs w (.int .i64 ((k : Int) + 1)) W1 := ⟨⟨k + 1, HX.out, by go_num, fun j y hy hj => by
              by_cases e : j = k
              · subst e
                have e2 := HXS.out.symm.trans hy
                injection e2 with e2
                rw [← e2]; exact HT.out
              · exact HA.out j y hy (by omega), HB1.out⟩⟩
            first | exact Q | ((repeat apply Exists.intro); exact ⟨Q, rfl⟩)
          case measure => have := HX.out; simp [intOf]; omega
        | false =>
          have HF : Hid (xs.all rightPartition = false) := all_false HXS.out HT.out
          go_wp2_with fail
          go_ret
          exact ⟨by rw [HR.out, HF.out]; rfl, HB1.out⟩
      · have hkI : ¬ (k : Int) < (n : Int) := by omega
        have HF : Hid (xs.all rightPartition = true) := all_true fun j y hy => HA.out j y hy (by have h1 := (List.getElem?_eq_some_iff.1 hy).1; have := HN.out; have := HK.out; omega)
        go_wp2_with fail
        go_ret
        exact ⟨by rw [HR.out, HF.out]; rfl, HB.out⟩
end Go.Proofs.Ytchlgihanogeeaa
