/-
  Which elements and lists are the same: modules. Each statement bears its own conditions.
-/
import Derived.Test.YtchlgihanogeeaaS2f
import Derived.Deep.QuietTactic
import Derived.BigQuiet
namespace Go.Proofs.Ytchlgihanogeeaa
open Go.RowKit
set_option linter.unusedVariables false
set_option linter.unusedSimpArgs false
def sameModule (x y : MModule) : Bool := decide (x.qa = y.qa) && decide (x.qd = y.qd) && eqB samePartition x.qb y.qb && eqB sameSchedule x.qc y.qc && eqB sameChannel x.qe y.qe && eqB sameLink x.qf y.qf && eqB sameRule x.qg y.qg
set_option maxRecDepth 100000 in
set_option maxHeartbeats 8000000 in
theorem sameModule_core (qa : ByteArray) (qb : List MPartition) (qc : List MSchedule) (qd : Int) (qe : List MChannel) (qf : List MLink) (qg : List MRule) (vqb : Value) (vqc : Value) (vqe : Value) (vqf : Value) (vqg : Value) (qa' : ByteArray) (qb' : List MPartition) (qc' : List MSchedule) (qd' : Int) (qe' : List MChannel) (qf' : List MLink) (qg' : List MRule) (vqb' : Value) (vqc' : Value) (vqe' : Value) (vqf' : Value) (vqg' : Value) (w : World) (hqb : Row w 13 (RPartition w) vqb qb) (hqc : Row w 3 (RSchedule w) vqc qc) (hqe : Row w 3 (RChannel w) vqe qe) (hqf : Row w 3 RLink vqf qf) (hqg : Row w 3 RRule vqg qg) (hqb' : Row w 13 (RPartition w) vqb' qb') (hqc' : Row w 3 (RSchedule w) vqc' qc') (hqe' : Row w 3 (RChannel w) vqe' qe') (hqf' : Row w 3 RLink vqf' qf') (hqg' : Row w 3 RRule vqg' qg') :
    Calls Try.prog 14 #[.agg #[.string qa, vqb, vqc, .int .i64 qd, vqe, vqf, vqg], .agg #[.string qa', vqb', vqc', .int .i64 qd', vqe', vqf', vqg']] w fun e w' => e = .returned (.bool (sameModule ⟨qa, qb, qc, qd, qe, qf, qg⟩ ⟨qa', qb', qc', qd', qe', qf', qg'⟩)) ∧ Below w.heap.size w w' := by
  obtain ⟨aqb, cqb, rfl, hmqb⟩ := hqb.form
  clear hmqb
  obtain ⟨nqb, hnqb⟩ : ∃ n, qb.length = n := ⟨_, rfl⟩
  rw [hnqb] at hqb ⊢
  clear hnqb
  obtain ⟨aqc, cqc, rfl, hmqc⟩ := hqc.form
  clear hmqc
  obtain ⟨nqc, hnqc⟩ : ∃ n, qc.length = n := ⟨_, rfl⟩
  rw [hnqc] at hqc ⊢
  clear hnqc
  obtain ⟨aqe, cqe, rfl, hmqe⟩ := hqe.form
  clear hmqe
  obtain ⟨nqe, hnqe⟩ : ∃ n, qe.length = n := ⟨_, rfl⟩
  rw [hnqe] at hqe ⊢
  clear hnqe
  obtain ⟨aqf, cqf, rfl, hmqf⟩ := hqf.form
  clear hmqf
  obtain ⟨nqf, hnqf⟩ : ∃ n, qf.length = n := ⟨_, rfl⟩
  rw [hnqf] at hqf ⊢
  clear hnqf
  obtain ⟨aqg, cqg, rfl, hmqg⟩ := hqg.form
  clear hmqg
  obtain ⟨nqg, hnqg⟩ : ∃ n, qg.length = n := ⟨_, rfl⟩
  rw [hnqg] at hqg ⊢
  clear hnqg
  obtain ⟨aqb', cqb', rfl, hmqb'⟩ := hqb'.form
  clear hmqb'
  obtain ⟨nqb', hnqb'⟩ : ∃ n, qb'.length = n := ⟨_, rfl⟩
  rw [hnqb'] at hqb' ⊢
  clear hnqb'
  obtain ⟨aqc', cqc', rfl, hmqc'⟩ := hqc'.form
  clear hmqc'
  obtain ⟨nqc', hnqc'⟩ : ∃ n, qc'.length = n := ⟨_, rfl⟩
  rw [hnqc'] at hqc' ⊢
  clear hnqc'
  obtain ⟨aqe', cqe', rfl, hmqe'⟩ := hqe'.form
  clear hmqe'
  obtain ⟨nqe', hnqe'⟩ : ∃ n, qe'.length = n := ⟨_, rfl⟩
  rw [hnqe'] at hqe' ⊢
  clear hnqe'
  obtain ⟨aqf', cqf', rfl, hmqf'⟩ := hqf'.form
  clear hmqf'
  obtain ⟨nqf', hnqf'⟩ : ∃ n, qf'.length = n := ⟨_, rfl⟩
  rw [hnqf'] at hqf' ⊢
  clear hnqf'
  obtain ⟨aqg', cqg', rfl, hmqg'⟩ := hqg'.form
  clear hmqg'
  obtain ⟨nqg', hnqg'⟩ : ∃ n, qg'.length = n := ⟨_, rfl⟩
  rw [hnqg'] at hqg' ⊢
  clear hnqg'
  obtain ⟨t0, h0⟩ : ∃ t : Bool, decide (qa = qa') = t := ⟨_, rfl⟩
  obtain ⟨t1, h1⟩ : ∃ t : Bool, decide (qd = qd') = t := ⟨_, rfl⟩
  obtain ⟨t2, h2⟩ : ∃ t : Bool, eqB samePartition qb qb' = t := ⟨_, rfl⟩
  obtain ⟨t3, h3⟩ : ∃ t : Bool, eqB sameSchedule qc qc' = t := ⟨_, rfl⟩
  obtain ⟨t4, h4⟩ : ∃ t : Bool, eqB sameChannel qe qe' = t := ⟨_, rfl⟩
  obtain ⟨t5, h5⟩ : ∃ t : Bool, eqB sameLink qf qf' = t := ⟨_, rfl⟩
  obtain ⟨t6, h6⟩ : ∃ t : Bool, eqB sameRule qg qg' = t := ⟨_, rfl⟩
  have HR : Hid (sameModule ⟨qa, qb, qc, qd, qe, qf, qg⟩ ⟨qa', qb', qc', qd', qe', qf', qg'⟩ = (t0 && t1 && t2 && t3 && t4 && t5 && t6)) := by unfold Hid sameModule; dsimp only; rw [h0, h1, h2, h3, h4, h5, h6]
  have C0 : (qa.toList == qa'.toList) = t0 := by rw [str_eq]; exact h0
  have C1 : (qd == qd') = t1 := h1
  have C2 : Hid (∀ W, Below w.heap.size w W → Calls Try.prog 45 #[.slice aqb nqb cqb, .slice aqb' nqb' cqb', .func (.func 46) #[] #[]] W fun e w' => e = .returned (.bool t2) ∧ Below W.heap.size W w') := fun W hB => by rw [← h2]; exact equalfPartition_any _ _ qb qb' W (hqb.keep hB (fun _ _ h => h.below hB)) (hqb'.keep hB (fun _ _ h => h.below hB))
  have C3 : Hid (∀ W, Below w.heap.size w W → Calls Try.prog 47 #[.slice aqc nqc cqc, .slice aqc' nqc' cqc', .func (.func 48) #[] #[]] W fun e w' => e = .returned (.bool t3) ∧ Below W.heap.size W w') := fun W hB => by rw [← h3]; exact equalfSchedule_any _ _ qc qc' W (hqc.keep hB (fun _ _ h => h.below hB)) (hqc'.keep hB (fun _ _ h => h.below hB))
  have C4 : Hid (∀ W, Below w.heap.size w W → Calls Try.prog 49 #[.slice aqe nqe cqe, .slice aqe' nqe' cqe', .func (.func 50) #[] #[]] W fun e w' => e = .returned (.bool t4) ∧ Below W.heap.size W w') := fun W hB => by rw [← h4]; exact equalfChannel_any _ _ qe qe' W (hqe.keep hB (fun _ _ h => h.below hB)) (hqe'.keep hB (fun _ _ h => h.below hB))
  have C5 : Hid (∀ W, Below w.heap.size w W → Calls Try.prog 51 #[.slice aqf nqf cqf, .slice aqf' nqf' cqf'] W fun e w' => e = .returned (.bool t5) ∧ Below W.heap.size W w') := fun W hB => by rw [← h5]; exact equalLink_any _ _ qf qf' W (hqf.below hB) (hqf'.below hB)
  have C6 : Hid (∀ W, Below w.heap.size w W → Calls Try.prog 52 #[.slice aqg nqg cqg, .slice aqg' nqg' cqg'] W fun e w' => e = .returned (.bool t6) ∧ Below W.heap.size W w') := fun W hB => by rw [← h6]; exact equalRule_any _ _ qg qg' W (hqg.below hB) (hqg'.below hB)
  clear h0 h1 h2 h3 h4 h5 h6 hqb hqb' hqc hqc' hqe hqe' hqf hqf' hqg hqg'
  cases t0 with
  | false =>
    go_enter Try.func14, Try.ntmps14
    go_wp2_with fail
    go_ret
    exact ⟨by rw [HR.out]; rfl, ((Below.refl _ _).alloc (Nat.le_refl _) _).alloc (by simp) _⟩
  | true =>
    cases t1 with
    | false =>
      go_enter Try.func14, Try.ntmps14
      go_wp2_with fail
      go_ret
      exact ⟨by rw [HR.out]; rfl, ((Below.refl _ _).alloc (Nat.le_refl _) _).alloc (by simp) _⟩
    | true =>
      cases t2 with
      | false =>
        go_enter Try.func14, Try.ntmps14
        go_wp2_with fail
        obtain ⟨W0, hW0⟩ : ∃ W0, (w.alloc (.cells #[.string qa, .slice aqb nqb cqb, .slice aqc nqc cqc, .int .i64 qd, .slice aqe nqe cqe, .slice aqf nqf cqf, .slice aqg nqg cqg] 30)).alloc (.cells #[.string qa', .slice aqb' nqb' cqb', .slice aqc' nqc' cqc', .int .i64 qd', .slice aqe' nqe' cqe', .slice aqf' nqf' cqf', .slice aqg' nqg' cqg'] 30) = W0 := ⟨_, rfl⟩
        have HX : Hid (∀ (j : Nat) u, [.string qa, .slice aqb nqb cqb, .slice aqc nqc cqc, .int .i64 qd, .slice aqe nqe cqe, .slice aqf nqf cqf, .slice aqg nqg cqg][j]? = some u → W0.cell? ⟨w.heap.size, j, none⟩ = some u) := fun j u hu => by rw [← hW0]; exact cell_al _ (by rw [World.cell?_alloc_new]; simpa using hu)
        have HY : Hid (∀ (j : Nat) u, [.string qa', .slice aqb' nqb' cqb', .slice aqc' nqc' cqc', .int .i64 qd', .slice aqe' nqe' cqe', .slice aqf' nqf' cqf', .slice aqg' nqg' cqg'][j]? = some u → W0.cell? ⟨w.heap.size + 1, j, none⟩ = some u) := fun j u hu => by rw [← hW0, show w.heap.size + 1 = (w.alloc (.cells #[.string qa, .slice aqb nqb cqb, .slice aqc nqc cqc, .int .i64 qd, .slice aqe nqe cqe, .slice aqf nqf cqf, .slice aqg nqg cqg] 30)).heap.size by simp, World.cell?_alloc_new]; simpa using hu
        have BW : Hid (Below w.heap.size w W0) := by rw [← hW0]; exact ((Below.refl _ _).alloc (Nat.le_refl _) _).alloc (by simp) _
        have B0 : Hid (Below W0.heap.size W0 W0) := Below.refl _ _
        rw [hW0]
        clear hW0
        refine (C2.out _ (BW.out.trans (B0.out.mono BW.out.size))).mono ?_
        rintro e W1 ⟨rfl, b⟩
        have B1 : Hid (Below W0.heap.size W0 W1) := B0.out.trans (b.mono B0.out.size)
        clear b
        go_wp2_with fail
        go_ret
        exact ⟨by rw [HR.out]; rfl, BW.out.trans (B1.out.mono BW.out.size)⟩
      | true =>
        cases t3 with
        | false =>
          go_enter Try.func14, Try.ntmps14
          go_wp2_with fail
          obtain ⟨W0, hW0⟩ : ∃ W0, (w.alloc (.cells #[.string qa, .slice aqb nqb cqb, .slice aqc nqc cqc, .int .i64 qd, .slice aqe nqe cqe, .slice aqf nqf cqf, .slice aqg nqg cqg] 30)).alloc (.cells #[.string qa', .slice aqb' nqb' cqb', .slice aqc' nqc' cqc', .int .i64 qd', .slice aqe' nqe' cqe', .slice aqf' nqf' cqf', .slice aqg' nqg' cqg'] 30) = W0 := ⟨_, rfl⟩
          have HX : Hid (∀ (j : Nat) u, [.string qa, .slice aqb nqb cqb, .slice aqc nqc cqc, .int .i64 qd, .slice aqe nqe cqe, .slice aqf nqf cqf, .slice aqg nqg cqg][j]? = some u → W0.cell? ⟨w.heap.size, j, none⟩ = some u) := fun j u hu => by rw [← hW0]; exact cell_al _ (by rw [World.cell?_alloc_new]; simpa using hu)
          have HY : Hid (∀ (j : Nat) u, [.string qa', .slice aqb' nqb' cqb', .slice aqc' nqc' cqc', .int .i64 qd', .slice aqe' nqe' cqe', .slice aqf' nqf' cqf', .slice aqg' nqg' cqg'][j]? = some u → W0.cell? ⟨w.heap.size + 1, j, none⟩ = some u) := fun j u hu => by rw [← hW0, show w.heap.size + 1 = (w.alloc (.cells #[.string qa, .slice aqb nqb cqb, .slice aqc nqc cqc, .int .i64 qd, .slice aqe nqe cqe, .slice aqf nqf cqf, .slice aqg nqg cqg] 30)).heap.size by simp, World.cell?_alloc_new]; simpa using hu
          have BW : Hid (Below w.heap.size w W0) := by rw [← hW0]; exact ((Below.refl _ _).alloc (Nat.le_refl _) _).alloc (by simp) _
          have B0 : Hid (Below W0.heap.size W0 W0) := Below.refl _ _
          rw [hW0]
          clear hW0
          refine (C2.out _ (BW.out.trans (B0.out.mono BW.out.size))).mono ?_
          rintro e W1 ⟨rfl, b⟩
          have B1 : Hid (Below W0.heap.size W0 W1) := B0.out.trans (b.mono B0.out.size)
          clear b
          have dn := cell_later B1.out (HX.out 2 _ rfl)
          have en := cell_later B1.out (HY.out 2 _ rfl)
          go_wp2_with fail
          refine (C3.out _ (BW.out.trans (B1.out.mono BW.out.size))).mono ?_
          rintro e W2 ⟨rfl, b⟩
          have B2 : Hid (Below W0.heap.size W0 W2) := B1.out.trans (b.mono B1.out.size)
          clear b
          go_wp2_with fail
          go_ret
          exact ⟨by rw [HR.out]; rfl, BW.out.trans (B2.out.mono BW.out.size)⟩
        | true =>
          cases t4 with
          | false =>
            go_enter Try.func14, Try.ntmps14
            go_wp2_with fail
            obtain ⟨W0, hW0⟩ : ∃ W0, (w.alloc (.cells #[.string qa, .slice aqb nqb cqb, .slice aqc nqc cqc, .int .i64 qd, .slice aqe nqe cqe, .slice aqf nqf cqf, .slice aqg nqg cqg] 30)).alloc (.cells #[.string qa', .slice aqb' nqb' cqb', .slice aqc' nqc' cqc', .int .i64 qd', .slice aqe' nqe' cqe', .slice aqf' nqf' cqf', .slice aqg' nqg' cqg'] 30) = W0 := ⟨_, rfl⟩
            have HX : Hid (∀ (j : Nat) u, [.string qa, .slice aqb nqb cqb, .slice aqc nqc cqc, .int .i64 qd, .slice aqe nqe cqe, .slice aqf nqf cqf, .slice aqg nqg cqg][j]? = some u → W0.cell? ⟨w.heap.size, j, none⟩ = some u) := fun j u hu => by rw [← hW0]; exact cell_al _ (by rw [World.cell?_alloc_new]; simpa using hu)
            have HY : Hid (∀ (j : Nat) u, [.string qa', .slice aqb' nqb' cqb', .slice aqc' nqc' cqc', .int .i64 qd', .slice aqe' nqe' cqe', .slice aqf' nqf' cqf', .slice aqg' nqg' cqg'][j]? = some u → W0.cell? ⟨w.heap.size + 1, j, none⟩ = some u) := fun j u hu => by rw [← hW0, show w.heap.size + 1 = (w.alloc (.cells #[.string qa, .slice aqb nqb cqb, .slice aqc nqc cqc, .int .i64 qd, .slice aqe nqe cqe, .slice aqf nqf cqf, .slice aqg nqg cqg] 30)).heap.size by simp, World.cell?_alloc_new]; simpa using hu
            have BW : Hid (Below w.heap.size w W0) := by rw [← hW0]; exact ((Below.refl _ _).alloc (Nat.le_refl _) _).alloc (by simp) _
            have B0 : Hid (Below W0.heap.size W0 W0) := Below.refl _ _
            rw [hW0]
            clear hW0
            refine (C2.out _ (BW.out.trans (B0.out.mono BW.out.size))).mono ?_
            rintro e W1 ⟨rfl, b⟩
            have B1 : Hid (Below W0.heap.size W0 W1) := B0.out.trans (b.mono B0.out.size)
            clear b
            have dn := cell_later B1.out (HX.out 2 _ rfl)
            have en := cell_later B1.out (HY.out 2 _ rfl)
            go_wp2_with fail
            refine (C3.out _ (BW.out.trans (B1.out.mono BW.out.size))).mono ?_
            rintro e W2 ⟨rfl, b⟩
            have B2 : Hid (Below W0.heap.size W0 W2) := B1.out.trans (b.mono B1.out.size)
            clear b
            clear dn en
            have dn := cell_later B2.out (HX.out 4 _ rfl)
            have en := cell_later B2.out (HY.out 4 _ rfl)
            go_wp2_with fail
            refine (C4.out _ (BW.out.trans (B2.out.mono BW.out.size))).mono ?_
            rintro e W3 ⟨rfl, b⟩
            have B3 : Hid (Below W0.heap.size W0 W3) := B2.out.trans (b.mono B2.out.size)
            clear b
            go_wp2_with fail
            go_ret
            exact ⟨by rw [HR.out]; rfl, BW.out.trans (B3.out.mono BW.out.size)⟩
          | true =>
            cases t5 with
            | false =>
              go_enter Try.func14, Try.ntmps14
              go_wp2_with fail
              obtain ⟨W0, hW0⟩ : ∃ W0, (w.alloc (.cells #[.string qa, .slice aqb nqb cqb, .slice aqc nqc cqc, .int .i64 qd, .slice aqe nqe cqe, .slice aqf nqf cqf, .slice aqg nqg cqg] 30)).alloc (.cells #[.string qa', .slice aqb' nqb' cqb', .slice aqc' nqc' cqc', .int .i64 qd', .slice aqe' nqe' cqe', .slice aqf' nqf' cqf', .slice aqg' nqg' cqg'] 30) = W0 := ⟨_, rfl⟩
              have HX : Hid (∀ (j : Nat) u, [.string qa, .slice aqb nqb cqb, .slice aqc nqc cqc, .int .i64 qd, .slice aqe nqe cqe, .slice aqf nqf cqf, .slice aqg nqg cqg][j]? = some u → W0.cell? ⟨w.heap.size, j, none⟩ = some u) := fun j u hu => by rw [← hW0]; exact cell_al _ (by rw [World.cell?_alloc_new]; simpa using hu)
              have HY : Hid (∀ (j : Nat) u, [.string qa', .slice aqb' nqb' cqb', .slice aqc' nqc' cqc', .int .i64 qd', .slice aqe' nqe' cqe', .slice aqf' nqf' cqf', .slice aqg' nqg' cqg'][j]? = some u → W0.cell? ⟨w.heap.size + 1, j, none⟩ = some u) := fun j u hu => by rw [← hW0, show w.heap.size + 1 = (w.alloc (.cells #[.string qa, .slice aqb nqb cqb, .slice aqc nqc cqc, .int .i64 qd, .slice aqe nqe cqe, .slice aqf nqf cqf, .slice aqg nqg cqg] 30)).heap.size by simp, World.cell?_alloc_new]; simpa using hu
              have BW : Hid (Below w.heap.size w W0) := by rw [← hW0]; exact ((Below.refl _ _).alloc (Nat.le_refl _) _).alloc (by simp) _
              have B0 : Hid (Below W0.heap.size W0 W0) := Below.refl _ _
              rw [hW0]
              clear hW0
              refine (C2.out _ (BW.out.trans (B0.out.mono BW.out.size))).mono ?_
              rintro e W1 ⟨rfl, b⟩
              have B1 : Hid (Below W0.heap.size W0 W1) := B0.out.trans (b.mono B0.out.size)
              clear b
              have dn := cell_later B1.out (HX.out 2 _ rfl)
              have en := cell_later B1.out (HY.out 2 _ rfl)
              go_wp2_with fail
              refine (C3.out _ (BW.out.trans (B1.out.mono BW.out.size))).mono ?_
              rintro e W2 ⟨rfl, b⟩
              have B2 : Hid (Below W0.heap.size W0 W2) := B1.out.trans (b.mono B1.out.size)
              clear b
              clear dn en
              have dn := cell_later B2.out (HX.out 4 _ rfl)
              have en := cell_later B2.out (HY.out 4 _ rfl)
              go_wp2_with fail
              refine (C4.out _ (BW.out.trans (B2.out.mono BW.out.size))).mono ?_
              rintro e W3 ⟨rfl, b⟩
              have B3 : Hid (Below W0.heap.size W0 W3) := B2.out.trans (b.mono B2.out.size)
              clear b
              clear dn en
              have dn := cell_later B3.out (HX.out 5 _ rfl)
              have en := cell_later B3.out (HY.out 5 _ rfl)
              go_wp2_with fail
              refine (C5.out _ (BW.out.trans (B3.out.mono BW.out.size))).mono ?_
              rintro e W4 ⟨rfl, b⟩
              have B4 : Hid (Below W0.heap.size W0 W4) := B3.out.trans (b.mono B3.out.size)
              clear b
              go_wp2_with fail
              go_ret
              exact ⟨by rw [HR.out]; rfl, BW.out.trans (B4.out.mono BW.out.size)⟩
            | true =>
              cases t6 with
              | false =>
                go_enter Try.func14, Try.ntmps14
                go_wp2_with fail
                obtain ⟨W0, hW0⟩ : ∃ W0, (w.alloc (.cells #[.string qa, .slice aqb nqb cqb, .slice aqc nqc cqc, .int .i64 qd, .slice aqe nqe cqe, .slice aqf nqf cqf, .slice aqg nqg cqg] 30)).alloc (.cells #[.string qa', .slice aqb' nqb' cqb', .slice aqc' nqc' cqc', .int .i64 qd', .slice aqe' nqe' cqe', .slice aqf' nqf' cqf', .slice aqg' nqg' cqg'] 30) = W0 := ⟨_, rfl⟩
                have HX : Hid (∀ (j : Nat) u, [.string qa, .slice aqb nqb cqb, .slice aqc nqc cqc, .int .i64 qd, .slice aqe nqe cqe, .slice aqf nqf cqf, .slice aqg nqg cqg][j]? = some u → W0.cell? ⟨w.heap.size, j, none⟩ = some u) := fun j u hu => by rw [← hW0]; exact cell_al _ (by rw [World.cell?_alloc_new]; simpa using hu)
                have HY : Hid (∀ (j : Nat) u, [.string qa', .slice aqb' nqb' cqb', .slice aqc' nqc' cqc', .int .i64 qd', .slice aqe' nqe' cqe', .slice aqf' nqf' cqf', .slice aqg' nqg' cqg'][j]? = some u → W0.cell? ⟨w.heap.size + 1, j, none⟩ = some u) := fun j u hu => by rw [← hW0, show w.heap.size + 1 = (w.alloc (.cells #[.string qa, .slice aqb nqb cqb, .slice aqc nqc cqc, .int .i64 qd, .slice aqe nqe cqe, .slice aqf nqf cqf, .slice aqg nqg cqg] 30)).heap.size by simp, World.cell?_alloc_new]; simpa using hu
                have BW : Hid (Below w.heap.size w W0) := by rw [← hW0]; exact ((Below.refl _ _).alloc (Nat.le_refl _) _).alloc (by simp) _
                have B0 : Hid (Below W0.heap.size W0 W0) := Below.refl _ _
                rw [hW0]
                clear hW0
                refine (C2.out _ (BW.out.trans (B0.out.mono BW.out.size))).mono ?_
                rintro e W1 ⟨rfl, b⟩
                have B1 : Hid (Below W0.heap.size W0 W1) := B0.out.trans (b.mono B0.out.size)
                clear b
                have dn := cell_later B1.out (HX.out 2 _ rfl)
                have en := cell_later B1.out (HY.out 2 _ rfl)
                go_wp2_with fail
                refine (C3.out _ (BW.out.trans (B1.out.mono BW.out.size))).mono ?_
                rintro e W2 ⟨rfl, b⟩
                have B2 : Hid (Below W0.heap.size W0 W2) := B1.out.trans (b.mono B1.out.size)
                clear b
                clear dn en
                have dn := cell_later B2.out (HX.out 4 _ rfl)
                have en := cell_later B2.out (HY.out 4 _ rfl)
                go_wp2_with fail
                refine (C4.out _ (BW.out.trans (B2.out.mono BW.out.size))).mono ?_
                rintro e W3 ⟨rfl, b⟩
                have B3 : Hid (Below W0.heap.size W0 W3) := B2.out.trans (b.mono B2.out.size)
                clear b
                clear dn en
                have dn := cell_later B3.out (HX.out 5 _ rfl)
                have en := cell_later B3.out (HY.out 5 _ rfl)
                go_wp2_with fail
                refine (C5.out _ (BW.out.trans (B3.out.mono BW.out.size))).mono ?_
                rintro e W4 ⟨rfl, b⟩
                have B4 : Hid (Below W0.heap.size W0 W4) := B3.out.trans (b.mono B3.out.size)
                clear b
                clear dn en
                have dn := cell_later B4.out (HX.out 6 _ rfl)
                have en := cell_later B4.out (HY.out 6 _ rfl)
                go_wp2_with fail
                refine (C6.out _ (BW.out.trans (B4.out.mono BW.out.size))).mono ?_
                rintro e W5 ⟨rfl, b⟩
                have B5 : Hid (Below W0.heap.size W0 W5) := B4.out.trans (b.mono B4.out.size)
                clear b
                go_wp2_with fail
                go_ret
                exact ⟨by rw [HR.out]; rfl, BW.out.trans (B5.out.mono BW.out.size)⟩
              | true =>
                go_enter Try.func14, Try.ntmps14
                go_wp2_with fail
                obtain ⟨W0, hW0⟩ : ∃ W0, (w.alloc (.cells #[.string qa, .slice aqb nqb cqb, .slice aqc nqc cqc, .int .i64 qd, .slice aqe nqe cqe, .slice aqf nqf cqf, .slice aqg nqg cqg] 30)).alloc (.cells #[.string qa', .slice aqb' nqb' cqb', .slice aqc' nqc' cqc', .int .i64 qd', .slice aqe' nqe' cqe', .slice aqf' nqf' cqf', .slice aqg' nqg' cqg'] 30) = W0 := ⟨_, rfl⟩
                have HX : Hid (∀ (j : Nat) u, [.string qa, .slice aqb nqb cqb, .slice aqc nqc cqc, .int .i64 qd, .slice aqe nqe cqe, .slice aqf nqf cqf, .slice aqg nqg cqg][j]? = some u → W0.cell? ⟨w.heap.size, j, none⟩ = some u) := fun j u hu => by rw [← hW0]; exact cell_al _ (by rw [World.cell?_alloc_new]; simpa using hu)
                have HY : Hid (∀ (j : Nat) u, [.string qa', .slice aqb' nqb' cqb', .slice aqc' nqc' cqc', .int .i64 qd', .slice aqe' nqe' cqe', .slice aqf' nqf' cqf', .slice aqg' nqg' cqg'][j]? = some u → W0.cell? ⟨w.heap.size + 1, j, none⟩ = some u) := fun j u hu => by rw [← hW0, show w.heap.size + 1 = (w.alloc (.cells #[.string qa, .slice aqb nqb cqb, .slice aqc nqc cqc, .int .i64 qd, .slice aqe nqe cqe, .slice aqf nqf cqf, .slice aqg nqg cqg] 30)).heap.size by simp, World.cell?_alloc_new]; simpa using hu
                have BW : Hid (Below w.heap.size w W0) := by rw [← hW0]; exact ((Below.refl _ _).alloc (Nat.le_refl _) _).alloc (by simp) _
                have B0 : Hid (Below W0.heap.size W0 W0) := Below.refl _ _
                rw [hW0]
                clear hW0
                refine (C2.out _ (BW.out.trans (B0.out.mono BW.out.size))).mono ?_
                rintro e W1 ⟨rfl, b⟩
                have B1 : Hid (Below W0.heap.size W0 W1) := B0.out.trans (b.mono B0.out.size)
                clear b
                have dn := cell_later B1.out (HX.out 2 _ rfl)
                have en := cell_later B1.out (HY.out 2 _ rfl)
                go_wp2_with fail
                refine (C3.out _ (BW.out.trans (B1.out.mono BW.out.size))).mono ?_
                rintro e W2 ⟨rfl, b⟩
                have B2 : Hid (Below W0.heap.size W0 W2) := B1.out.trans (b.mono B1.out.size)
                clear b
                clear dn en
                have dn := cell_later B2.out (HX.out 4 _ rfl)
                have en := cell_later B2.out (HY.out 4 _ rfl)
                go_wp2_with fail
                refine (C4.out _ (BW.out.trans (B2.out.mono BW.out.size))).mono ?_
                rintro e W3 ⟨rfl, b⟩
                have B3 : Hid (Below W0.heap.size W0 W3) := B2.out.trans (b.mono B2.out.size)
                clear b
                clear dn en
                have dn := cell_later B3.out (HX.out 5 _ rfl)
                have en := cell_later B3.out (HY.out 5 _ rfl)
                go_wp2_with fail
                refine (C5.out _ (BW.out.trans (B3.out.mono BW.out.size))).mono ?_
                rintro e W4 ⟨rfl, b⟩
                have B4 : Hid (Below W0.heap.size W0 W4) := B3.out.trans (b.mono B3.out.size)
                clear b
                clear dn en
                have dn := cell_later B4.out (HX.out 6 _ rfl)
                have en := cell_later B4.out (HY.out 6 _ rfl)
                go_wp2_with fail
                refine (C6.out _ (BW.out.trans (B4.out.mono BW.out.size))).mono ?_
                rintro e W5 ⟨rfl, b⟩
                have B5 : Hid (Below W0.heap.size W0 W5) := B4.out.trans (b.mono B4.out.size)
                clear b
                go_wp2_with fail
                go_ret
                exact ⟨by rw [HR.out]; rfl, BW.out.trans (B5.out.mono BW.out.size)⟩
end Go.Proofs.Ytchlgihanogeeaa
