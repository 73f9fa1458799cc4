/-
  The walk of BookSames. Each statement bears its own conditions.
-/
import Derived.Test.YtchlgihanogeeaaTold
import Derived.Test.YtchlgihanogeeaaFew
import Derived.Test.YtchlgihanogeeaaRs3
namespace Go.Proofs.Ytchlgihanogeeaa
open Go.RowKit
set_option linter.unusedVariables false
set_option linter.unusedSimpArgs false
theorem decide_comm {α : Type} [DecidableEq α] (a b : α) : decide (a = b) = decide (b = a) := by rw [decide_eq_decide]; exact ⟨Eq.symm, Eq.symm⟩
theorem eqB_comm {α : Type} {eq : α → α → Bool} (h : ∀ x y, eq x y = eq y x) (xs ys : List α) : eqB eq xs ys = eqB eq ys xs := by
  unfold eqB
  rw [decide_comm xs.length]
  congr 1
  induction xs generalizing ys with
  | nil => cases ys <;> rfl
  | cons x xs ih => cases ys with
    | nil => rfl
    | cons y ys => simp only [List.zip_cons_cons, List.all_cons, ih ys, h x y]
theorem eqB_self {α : Type} {eq : α → α → Bool} (h : ∀ x, eq x x = true) (xs : List α) : eqB eq xs xs = true := by
  unfold eqB
  rw [decide_eq_true rfl, Bool.true_and]
  induction xs with
  | nil => rfl
  | cons x xs ih => simp only [List.zip_cons_cons, List.all_cons, ih, h x, Bool.and_self]
theorem sameArea_comm (x y : MArea) : sameArea x y = sameArea y x := by
  unfold sameArea
  rw [decide_comm x.qa, decide_comm x.qb, decide_comm x.qc, decide_comm x.qd, decide_comm x.qe, decide_comm x.qf]
theorem sameArea_self (x : MArea) : sameArea x x = true := by
  unfold sameArea
  simp
theorem sameTask_comm (x y : MTask) : sameTask x y = sameTask y x := by
  unfold sameTask
  rw [decide_comm x.qa, decide_comm x.qb, decide_comm x.qc, decide_comm x.qd, decide_comm x.qe, decide_comm x.qf, decide_comm x.qg, decide_comm x.qh]
theorem sameTask_self (x : MTask) : sameTask x x = true := by
  unfold sameTask
  simp
theorem sameLock_comm (x y : MLock) : sameLock x y = sameLock y x := by
  unfold sameLock
  rw [decide_comm x.qa, decide_comm x.qb]
theorem sameLock_self (x : MLock) : sameLock x x = true := by
  unfold sameLock
  simp
theorem sameSema_comm (x y : MSema) : sameSema x y = sameSema y x := by
  unfold sameSema
  rw [decide_comm x.qa, decide_comm x.qb, decide_comm x.qc, decide_comm x.qd]
theorem sameSema_self (x : MSema) : sameSema x x = true := by
  unfold sameSema
  simp
theorem sameEvent_comm (x y : MEvent) : sameEvent x y = sameEvent y x := by
  unfold sameEvent
  rw [decide_comm x.qa]
theorem sameEvent_self (x : MEvent) : sameEvent x x = true := by
  unfold sameEvent
  simp
theorem sameBoard_comm (x y : MBoard) : sameBoard x y = sameBoard y x := by
  unfold sameBoard
  rw [decide_comm x.qa, decide_comm x.qb]
theorem sameBoard_self (x : MBoard) : sameBoard x x = true := by
  unfold sameBoard
  simp
theorem sameBuffer_comm (x y : MBuffer) : sameBuffer x y = sameBuffer y x := by
  unfold sameBuffer
  rw [decide_comm x.qa, decide_comm x.qb, decide_comm x.qc, decide_comm x.qd]
theorem sameBuffer_self (x : MBuffer) : sameBuffer x x = true := by
  unfold sameBuffer
  simp
theorem samePort_comm (x y : MPort) : samePort x y = samePort y x := by
  unfold samePort
  rw [decide_comm x.qa, decide_comm x.qb, decide_comm x.qc, decide_comm x.qd, decide_comm x.qe, decide_comm x.qf]
theorem samePort_self (x : MPort) : samePort x x = true := by
  unfold samePort
  simp
theorem sameRule_comm (x y : MRule) : sameRule x y = sameRule y x := by
  unfold sameRule
  rw [decide_comm x.qa, decide_comm x.qb, decide_comm x.qc]
theorem sameRule_self (x : MRule) : sameRule x x = true := by
  unfold sameRule
  simp
theorem sameWindow_comm (x y : MWindow) : sameWindow x y = sameWindow y x := by
  unfold sameWindow
  rw [decide_comm x.qa, decide_comm x.qb, decide_comm x.qc]
theorem sameWindow_self (x : MWindow) : sameWindow x x = true := by
  unfold sameWindow
  simp
theorem sameEnd_comm (x y : MEnd) : sameEnd x y = sameEnd y x := by
  unfold sameEnd
  rw [decide_comm x.qa, decide_comm x.qb]
theorem sameEnd_self (x : MEnd) : sameEnd x x = true := by
  unfold sameEnd
  simp
theorem sameLink_comm (x y : MLink) : sameLink x y = sameLink y x := by
  unfold sameLink
  rw [decide_comm x.qa, decide_comm x.qb, decide_comm x.qc]
theorem sameLink_self (x : MLink) : sameLink x x = true := by
  unfold sameLink
  simp
theorem sameBudget_comm (x y : MBudget) : sameBudget x y = sameBudget y x := by
  unfold sameBudget
  rw [decide_comm x.qa, decide_comm x.qb]
theorem sameBudget_self (x : MBudget) : sameBudget x x = true := by
  unfold sameBudget
  simp
theorem sameSchedule_comm (x y : MSchedule) : sameSchedule x y = sameSchedule y x := by
  unfold sameSchedule
  rw [decide_comm x.qa, decide_comm x.qb, eqB_comm sameWindow_comm x.qc]
theorem sameSchedule_self (x : MSchedule) : sameSchedule x x = true := by
  unfold sameSchedule
  simp only [decide_true, eqB_self sameWindow_self, Bool.and_self]
theorem sameChannel_comm (x y : MChannel) : sameChannel x y = sameChannel y x := by
  unfold sameChannel
  rw [sameEnd_comm ⟨x.qa, x.qb⟩, eqB_comm sameEnd_comm x.qc]
theorem sameChannel_self (x : MChannel) : sameChannel x x = true := by
  unfold sameChannel
  simp only [sameEnd_self, eqB_self sameEnd_self, Bool.and_self]
theorem samePartition_comm (x y : MPartition) : samePartition x y = samePartition y x := by
  unfold samePartition
  rw [decide_comm x.qa, decide_comm x.qk, sameBudget_comm ⟨x.ql, x.qm⟩, eqB_comm sameArea_comm x.qb, eqB_comm sameTask_comm x.qc, eqB_comm sameLock_comm x.qd, eqB_comm sameSema_comm x.qe, eqB_comm sameEvent_comm x.qf, eqB_comm sameBoard_comm x.qg, eqB_comm sameBuffer_comm x.qh, eqB_comm samePort_comm x.qi, eqB_comm sameRule_comm x.qj]
theorem samePartition_self (x : MPartition) : samePartition x x = true := by
  unfold samePartition
  simp only [decide_true, sameBudget_self, eqB_self sameArea_self, eqB_self sameTask_self, eqB_self sameLock_self, eqB_self sameSema_self, eqB_self sameEvent_self, eqB_self sameBoard_self, eqB_self sameBuffer_self, eqB_self samePort_self, eqB_self sameRule_self, Bool.and_self]
theorem sameModule_comm (x y : MModule) : sameModule x y = sameModule y x := by
  unfold sameModule
  rw [decide_comm x.qa, decide_comm x.qd, eqB_comm samePartition_comm x.qb, eqB_comm sameSchedule_comm x.qc, eqB_comm sameChannel_comm x.qe, eqB_comm sameLink_comm x.qf, eqB_comm sameRule_comm x.qg]
theorem sameModule_self (x : MModule) : sameModule x x = true := by
  unfold sameModule
  simp only [decide_true, eqB_self samePartition_self, eqB_self sameSchedule_self, eqB_self sameChannel_self, eqB_self sameLink_self, eqB_self sameRule_self, Bool.and_self]
set_option maxRecDepth 100000 in
set_option maxHeartbeats 8000000 in
theorem sames_walk (m m' : MModule) (cs cs' : Array Value) (w : World) (h : RModule w m cs.toList) (h' : RModule w m' cs'.toList) : Calls Try.prog 5 #[.agg cs, .agg cs'] w fun e w' => e = .returned (.bool true) ∧ Below w.heap.size w w' := by
  obtain ⟨qa, qb, qc, qd, qe, qf, qg⟩ := m
  obtain ⟨l⟩ := cs
  obtain ⟨vqb, vqc, vqe, vqf, vqg, e, hsqa, hqb, hqc, hqe, hqf, hqg⟩ := h
  have e1 : l = _ := e
  subst e1
  clear e hsqa
  obtain ⟨aqb, cqb, rfl, hmqb⟩ := hqb.form
  clear hmqb
  obtain ⟨aqc, cqc, rfl, hmqc⟩ := hqc.form
  clear hmqc
  obtain ⟨aqe, cqe, rfl, hmqe⟩ := hqe.form
  clear hmqe
  obtain ⟨aqf, cqf, rfl, hmqf⟩ := hqf.form
  clear hmqf
  obtain ⟨aqg, cqg, rfl, hmqg⟩ := hqg.form
  clear hmqg
  obtain ⟨qa', qb', qc', qd', qe', qf', qg'⟩ := m'
  obtain ⟨l'⟩ := cs'
  obtain ⟨vqb', vqc', vqe', vqf', vqg', e', hsqa', hqb', hqc', hqe', hqf', hqg'⟩ := h'
  have e1' : l' = _ := e'
  subst e1'
  clear e' hsqa'
  obtain ⟨aqb', cqb', rfl, hmqb'⟩ := hqb'.form
  clear hmqb'
  obtain ⟨aqc', cqc', rfl, hmqc'⟩ := hqc'.form
  clear hmqc'
  obtain ⟨aqe', cqe', rfl, hmqe'⟩ := hqe'.form
  clear hmqe'
  obtain ⟨aqf', cqf', rfl, hmqf'⟩ := hqf'.form
  clear hmqf'
  obtain ⟨aqg', cqg', rfl, hmqg'⟩ := hqg'.form
  clear hmqg'
  obtain ⟨tf, htf⟩ : ∃ t, fewB ⟨qa, qb, qc, qd, qe, qf, qg⟩ = t := ⟨_, rfl⟩
  obtain ⟨tg, htg⟩ : ∃ t, fewB ⟨qa', qb', qc', qd', qe', qf', qg'⟩ = t := ⟨_, rfl⟩
  obtain ⟨ts, hts⟩ : ∃ t, sameModule ⟨qa, qb, qc, qd, qe, qf, qg⟩ ⟨qa', qb', qc', qd', qe', qf', qg'⟩ = t := ⟨_, rfl⟩
  have hts2 : sameModule ⟨qa', qb', qc', qd', qe', qf', qg'⟩ ⟨qa, qb, qc, qd, qe, qf, qg⟩ = ts := by rw [← hts]; exact sameModule_comm _ _
  have hts3 : sameModule ⟨qa, qb, qc, qd, qe, qf, qg⟩ ⟨qa, qb, qc, qd, qe, qf, qg⟩ = true := sameModule_self _
  have CF : Hid (∀ W, Below w.heap.size w W → Calls Try.prog 10 #[.agg #[.string qa, .slice aqb qb.length cqb, .slice aqc qc.length cqc, .int .i64 qd, .slice aqe qe.length cqe, .slice aqf qf.length cqf, .slice aqg qg.length cqg]] W fun e w' => e = .returned (.bool tf) ∧ Below W.heap.size W w') := fun W hB => by
    rw [← htf]; exact few_core qa qb qc qd qe qf qg (.slice aqb qb.length cqb) (.slice aqc qc.length cqc) (.slice aqe qe.length cqe) (.slice aqf qf.length cqf) (.slice aqg qg.length cqg) W (hqb.keep hB (fun _ _ h => h.below hB)) (hqc.keep hB (fun _ _ h => h.below hB)) (hqe.keep hB (fun _ _ h => h.below hB)) (hqf.below hB) (hqg.below hB)
  have CG : Hid (∀ W, Below w.heap.size w W → Calls Try.prog 10 #[.agg #[.string qa', .slice aqb' qb'.length cqb', .slice aqc' qc'.length cqc', .int .i64 qd', .slice aqe' qe'.length cqe', .slice aqf' qf'.length cqf', .slice aqg' qg'.length cqg']] W fun e w' => e = .returned (.bool tg) ∧ Below W.heap.size W w') := fun W hB => by
    rw [← htg]; exact few_core qa' qb' qc' qd' qe' qf' qg' (.slice aqb' qb'.length cqb') (.slice aqc' qc'.length cqc') (.slice aqe' qe'.length cqe') (.slice aqf' qf'.length cqf') (.slice aqg' qg'.length cqg') W (hqb'.keep hB (fun _ _ h => h.below hB)) (hqc'.keep hB (fun _ _ h => h.below hB)) (hqe'.keep hB (fun _ _ h => h.below hB)) (hqf'.below hB) (hqg'.below hB)
  have CR : Hid (∀ W, Below w.heap.size w W → Calls Try.prog 13 #[.agg #[.string qa, .slice aqb qb.length cqb, .slice aqc qc.length cqc, .int .i64 qd, .slice aqe qe.length cqe, .slice aqf qf.length cqf, .slice aqg qg.length cqg], .agg #[.string qa', .slice aqb' qb'.length cqb', .slice aqc' qc'.length cqc', .int .i64 qd', .slice aqe' qe'.length cqe', .slice aqf' qf'.length cqf', .slice aqg' qg'.length cqg']] W fun e w' => e = .returned (.bool ts) ∧ Below W.heap.size W w') := fun W hB => by
    rw [← hts]; exact rsameModule_core qa qb qc qd qe qf qg (.slice aqb qb.length cqb) (.slice aqc qc.length cqc) (.slice aqe qe.length cqe) (.slice aqf qf.length cqf) (.slice aqg qg.length cqg) qa' qb' qc' qd' qe' qf' qg' (.slice aqb' qb'.length cqb') (.slice aqc' qc'.length cqc') (.slice aqe' qe'.length cqe') (.slice aqf' qf'.length cqf') (.slice aqg' qg'.length cqg') W (hqb.keep hB (fun _ _ h => h.below hB)) (hqc.keep hB (fun _ _ h => h.below hB)) (hqe.keep hB (fun _ _ h => h.below hB)) (hqf.below hB) (hqg.below hB) (hqb'.keep hB (fun _ _ h => h.below hB)) (hqc'.keep hB (fun _ _ h => h.below hB)) (hqe'.keep hB (fun _ _ h => h.below hB)) (hqf'.below hB) (hqg'.below hB)
  have CS : Hid (∀ W, Below w.heap.size w W → Calls Try.prog 14 #[.agg #[.string qa, .slice aqb qb.length cqb, .slice aqc qc.length cqc, .int .i64 qd, .slice aqe qe.length cqe, .slice aqf qf.length cqf, .slice aqg qg.length cqg], .agg #[.string qa', .slice aqb' qb'.length cqb', .slice aqc' qc'.length cqc', .int .i64 qd', .slice aqe' qe'.length cqe', .slice aqf' qf'.length cqf', .slice aqg' qg'.length cqg']] W fun e w' => e = .returned (.bool ts) ∧ Below W.heap.size W w') := fun W hB => by
    rw [← hts]; exact sameModule_core qa qb qc qd qe qf qg (.slice aqb qb.length cqb) (.slice aqc qc.length cqc) (.slice aqe qe.length cqe) (.slice aqf qf.length cqf) (.slice aqg qg.length cqg) qa' qb' qc' qd' qe' qf' qg' (.slice aqb' qb'.length cqb') (.slice aqc' qc'.length cqc') (.slice aqe' qe'.length cqe') (.slice aqf' qf'.length cqf') (.slice aqg' qg'.length cqg') W (hqb.keep hB (fun _ _ h => h.below hB)) (hqc.keep hB (fun _ _ h => h.below hB)) (hqe.keep hB (fun _ _ h => h.below hB)) (hqf.below hB) (hqg.below hB) (hqb'.keep hB (fun _ _ h => h.below hB)) (hqc'.keep hB (fun _ _ h => h.below hB)) (hqe'.keep hB (fun _ _ h => h.below hB)) (hqf'.below hB) (hqg'.below hB)
  have CT : Hid (∀ W, Below w.heap.size w W → Calls Try.prog 14 #[.agg #[.string qa', .slice aqb' qb'.length cqb', .slice aqc' qc'.length cqc', .int .i64 qd', .slice aqe' qe'.length cqe', .slice aqf' qf'.length cqf', .slice aqg' qg'.length cqg'], .agg #[.string qa, .slice aqb qb.length cqb, .slice aqc qc.length cqc, .int .i64 qd, .slice aqe qe.length cqe, .slice aqf qf.length cqf, .slice aqg qg.length cqg]] W fun e w' => e = .returned (.bool ts) ∧ Below W.heap.size W w') := fun W hB => by
    rw [← hts2]; exact sameModule_core qa' qb' qc' qd' qe' qf' qg' (.slice aqb' qb'.length cqb') (.slice aqc' qc'.length cqc') (.slice aqe' qe'.length cqe') (.slice aqf' qf'.length cqf') (.slice aqg' qg'.length cqg') qa qb qc qd qe qf qg (.slice aqb qb.length cqb) (.slice aqc qc.length cqc) (.slice aqe qe.length cqe) (.slice aqf qf.length cqf) (.slice aqg qg.length cqg) W (hqb'.keep hB (fun _ _ h => h.below hB)) (hqc'.keep hB (fun _ _ h => h.below hB)) (hqe'.keep hB (fun _ _ h => h.below hB)) (hqf'.below hB) (hqg'.below hB) (hqb.keep hB (fun _ _ h => h.below hB)) (hqc.keep hB (fun _ _ h => h.below hB)) (hqe.keep hB (fun _ _ h => h.below hB)) (hqf.below hB) (hqg.below hB)
  have CU : Hid (∀ W, Below w.heap.size w W → Calls Try.prog 14 #[.agg #[.string qa, .slice aqb qb.length cqb, .slice aqc qc.length cqc, .int .i64 qd, .slice aqe qe.length cqe, .slice aqf qf.length cqf, .slice aqg qg.length cqg], .agg #[.string qa, .slice aqb qb.length cqb, .slice aqc qc.length cqc, .int .i64 qd, .slice aqe qe.length cqe, .slice aqf qf.length cqf, .slice aqg qg.length cqg]] W fun e w' => e = .returned (.bool true) ∧ Below W.heap.size W w') := fun W hB => by
    rw [← hts3]; exact sameModule_core qa qb qc qd qe qf qg (.slice aqb qb.length cqb) (.slice aqc qc.length cqc) (.slice aqe qe.length cqe) (.slice aqf qf.length cqf) (.slice aqg qg.length cqg) qa qb qc qd qe qf qg (.slice aqb qb.length cqb) (.slice aqc qc.length cqc) (.slice aqe qe.length cqe) (.slice aqf qf.length cqf) (.slice aqg qg.length cqg) W (hqb.keep hB (fun _ _ h => h.below hB)) (hqc.keep hB (fun _ _ h => h.below hB)) (hqe.keep hB (fun _ _ h => h.below hB)) (hqf.below hB) (hqg.below hB) (hqb.keep hB (fun _ _ h => h.below hB)) (hqc.keep hB (fun _ _ h => h.below hB)) (hqe.keep hB (fun _ _ h => h.below hB)) (hqf.below hB) (hqg.below hB)
  clear htf htg hts hts2 hts3 hqb hqc hqe hqf hqg hqb' hqc' hqe' hqf' hqg'
  have hbb : (ts == ts) = true := by cases ts <;> rfl
  go_enter Try.func5, Try.ntmps5
  go_wp2_with fail
  obtain ⟨W0, hW0⟩ : ∃ W0, (w.alloc (.cells #[.string qa, .slice aqb qb.length cqb, .slice aqc qc.length cqc, .int .i64 qd, .slice aqe qe.length cqe, .slice aqf qf.length cqf, .slice aqg qg.length cqg] 30)).alloc (.cells #[.string qa', .slice aqb' qb'.length cqb', .slice aqc' qc'.length cqc', .int .i64 qd', .slice aqe' qe'.length cqe', .slice aqf' qf'.length cqf', .slice aqg' qg'.length cqg'] 30) = W0 := ⟨_, rfl⟩
  have HX : Hid (∀ (j : Nat) u, [.string qa, .slice aqb qb.length cqb, .slice aqc qc.length cqc, .int .i64 qd, .slice aqe qe.length cqe, .slice aqf qf.length cqf, .slice aqg qg.length cqg][j]? = some u → W0.cell? ⟨w.heap.size, j, none⟩ = some u) := fun j u hu => by rw [← hW0]; exact cell_al _ (by rw [World.cell?_alloc_new]; simpa using hu)
  have HY : Hid (∀ (j : Nat) u, [.string qa', .slice aqb' qb'.length cqb', .slice aqc' qc'.length cqc', .int .i64 qd', .slice aqe' qe'.length cqe', .slice aqf' qf'.length cqf', .slice aqg' qg'.length cqg'][j]? = some u → W0.cell? ⟨w.heap.size + 1, j, none⟩ = some u) := fun j u hu => by rw [← hW0, show w.heap.size + 1 = (w.alloc (.cells #[.string qa, .slice aqb qb.length cqb, .slice aqc qc.length cqc, .int .i64 qd, .slice aqe qe.length cqe, .slice aqf qf.length cqf, .slice aqg qg.length cqg] 30)).heap.size by simp, World.cell?_alloc_new]; simpa using hu
  have BW : Hid (Below w.heap.size w W0) := by rw [← hW0]; exact ((Below.refl _ _).alloc (Nat.le_refl _) _).alloc (by simp) _
  have B0 : Hid (Below W0.heap.size W0 W0) := Below.refl _ _
  rw [hW0]
  clear hW0
  with_reducible refine (CF.out _ (BW.out.trans (B0.out.mono BW.out.size))).mono ?_
  rintro e W1 ⟨rfl, b⟩
  have B1 : Hid (Below W0.heap.size W0 W1) := B0.out.trans (b.mono B0.out.size)
  clear b
  cases tf with
  | false =>
    go_wp2_with fail
    refine (told_any _).mono ?_
    rintro e W2 ⟨rfl, b⟩
    have B2 : Hid (Below W0.heap.size W0 W2) := B1.out.trans (b.mono B1.out.size)
    clear b
    go_wp2_with fail
    go_ret
    exact ⟨rfl, BW.out.trans (B2.out.mono BW.out.size)⟩
  | true =>
    have e0 := cell_later B1.out (HY.out 0 _ rfl)
    have e1 := cell_later B1.out (HY.out 1 _ rfl)
    have e2 := cell_later B1.out (HY.out 2 _ rfl)
    have e3 := cell_later B1.out (HY.out 3 _ rfl)
    have e4 := cell_later B1.out (HY.out 4 _ rfl)
    have e5 := cell_later B1.out (HY.out 5 _ rfl)
    have e6 := cell_later B1.out (HY.out 6 _ rfl)
    go_wp2_with fail
    clear e0 e1 e2 e3 e4 e5 e6
    with_reducible refine (CG.out _ (BW.out.trans (B1.out.mono BW.out.size))).mono ?_
    rintro e W2 ⟨rfl, b⟩
    have B2 : Hid (Below W0.heap.size W0 W2) := B1.out.trans (b.mono B1.out.size)
    clear b
    cases tg with
    | false =>
      go_wp2_with fail
      refine (told_any _).mono ?_
      rintro e W3 ⟨rfl, b⟩
      have B3 : Hid (Below W0.heap.size W0 W3) := B2.out.trans (b.mono B2.out.size)
      clear b
      go_wp2_with fail
      go_ret
      exact ⟨rfl, BW.out.trans (B3.out.mono BW.out.size)⟩
    | true =>
      have d0 := cell_later B2.out (HX.out 0 _ rfl)
      have d1 := cell_later B2.out (HX.out 1 _ rfl)
      have d2 := cell_later B2.out (HX.out 2 _ rfl)
      have d3 := cell_later B2.out (HX.out 3 _ rfl)
      have d4 := cell_later B2.out (HX.out 4 _ rfl)
      have d5 := cell_later B2.out (HX.out 5 _ rfl)
      have d6 := cell_later B2.out (HX.out 6 _ rfl)
      have e0 := cell_later B2.out (HY.out 0 _ rfl)
      have e1 := cell_later B2.out (HY.out 1 _ rfl)
      have e2 := cell_later B2.out (HY.out 2 _ rfl)
      have e3 := cell_later B2.out (HY.out 3 _ rfl)
      have e4 := cell_later B2.out (HY.out 4 _ rfl)
      have e5 := cell_later B2.out (HY.out 5 _ rfl)
      have e6 := cell_later B2.out (HY.out 6 _ rfl)
      go_wp2_with fail
      clear d0 d1 d2 d3 d4 d5 d6 e0 e1 e2 e3 e4 e5 e6
      with_reducible refine (CR.out _ (BW.out.trans (B2.out.mono BW.out.size))).mono ?_
      rintro e W3 ⟨rfl, b⟩
      have B3 : Hid (Below W0.heap.size W0 W3) := B2.out.trans (b.mono B2.out.size)
      clear b
      go_wp2_with fail
      refine (told_any _).mono ?_
      rintro e W4 ⟨rfl, b⟩
      have B4 : Hid (Below W0.heap.size W0 W4) := B3.out.trans (b.mono B3.out.size)
      clear b
      have d0 := cell_later B4.out (HX.out 0 _ rfl)
      have d1 := cell_later B4.out (HX.out 1 _ rfl)
      have d2 := cell_later B4.out (HX.out 2 _ rfl)
      have d3 := cell_later B4.out (HX.out 3 _ rfl)
      have d4 := cell_later B4.out (HX.out 4 _ rfl)
      have d5 := cell_later B4.out (HX.out 5 _ rfl)
      have d6 := cell_later B4.out (HX.out 6 _ rfl)
      have e0 := cell_later B4.out (HY.out 0 _ rfl)
      have e1 := cell_later B4.out (HY.out 1 _ rfl)
      have e2 := cell_later B4.out (HY.out 2 _ rfl)
      have e3 := cell_later B4.out (HY.out 3 _ rfl)
      have e4 := cell_later B4.out (HY.out 4 _ rfl)
      have e5 := cell_later B4.out (HY.out 5 _ rfl)
      have e6 := cell_later B4.out (HY.out 6 _ rfl)
      go_wp2_with fail
      clear d0 d1 d2 d3 d4 d5 d6 e0 e1 e2 e3 e4 e5 e6
      with_reducible refine (CS.out _ (BW.out.trans (B4.out.mono BW.out.size))).mono ?_
      rintro e W5 ⟨rfl, b⟩
      have B5 : Hid (Below W0.heap.size W0 W5) := B4.out.trans (b.mono B4.out.size)
      clear b
      have d0 := cell_later B5.out (HX.out 0 _ rfl)
      have d1 := cell_later B5.out (HX.out 1 _ rfl)
      have d2 := cell_later B5.out (HX.out 2 _ rfl)
      have d3 := cell_later B5.out (HX.out 3 _ rfl)
      have d4 := cell_later B5.out (HX.out 4 _ rfl)
      have d5 := cell_later B5.out (HX.out 5 _ rfl)
      have d6 := cell_later B5.out (HX.out 6 _ rfl)
      have e0 := cell_later B5.out (HY.out 0 _ rfl)
      have e1 := cell_later B5.out (HY.out 1 _ rfl)
      have e2 := cell_later B5.out (HY.out 2 _ rfl)
      have e3 := cell_later B5.out (HY.out 3 _ rfl)
      have e4 := cell_later B5.out (HY.out 4 _ rfl)
      have e5 := cell_later B5.out (HY.out 5 _ rfl)
      have e6 := cell_later B5.out (HY.out 6 _ rfl)
      go_wp2_with fail
      clear d0 d1 d2 d3 d4 d5 d6 e0 e1 e2 e3 e4 e5 e6
      with_reducible refine (CT.out _ (BW.out.trans (B5.out.mono BW.out.size))).mono ?_
      rintro e W6 ⟨rfl, b⟩
      have B6 : Hid (Below W0.heap.size W0 W6) := B5.out.trans (b.mono B5.out.size)
      clear b
      have d0 := cell_later B6.out (HX.out 0 _ rfl)
      have d1 := cell_later B6.out (HX.out 1 _ rfl)
      have d2 := cell_later B6.out (HX.out 2 _ rfl)
      have d3 := cell_later B6.out (HX.out 3 _ rfl)
      have d4 := cell_later B6.out (HX.out 4 _ rfl)
      have d5 := cell_later B6.out (HX.out 5 _ rfl)
      have d6 := cell_later B6.out (HX.out 6 _ rfl)
      go_wp2_with fail
      clear d0 d1 d2 d3 d4 d5 d6
      with_reducible refine (CU.out _ (BW.out.trans (B6.out.mono BW.out.size))).mono ?_
      rintro e W7 ⟨rfl, b⟩
      have B7 : Hid (Below W0.heap.size W0 W7) := B6.out.trans (b.mono B6.out.size)
      clear b
      go_wp2_with fail
      go_ret
      exact ⟨rfl, BW.out.trans (B7.out.mono BW.out.size)⟩
end Go.Proofs.Ytchlgihanogeeaa
