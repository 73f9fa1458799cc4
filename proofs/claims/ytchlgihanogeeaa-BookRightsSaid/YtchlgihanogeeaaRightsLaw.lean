/-
  The walk of BookRights. Each statement bears its own conditions.
-/
import Derived.Test.YtchlgihanogeeaaTold
import Derived.Test.YtchlgihanogeeaaFew
import Derived.Test.YtchlgihanogeeaaRr4
namespace Go.Proofs.Ytchlgihanogeeaa
open Go.RowKit
set_option linter.unusedVariables false
set_option linter.unusedSimpArgs false
set_option maxRecDepth 100000 in
set_option maxHeartbeats 8000000 in
theorem rights_walk (m : MModule) (cs : Array Value) (w : World) (h : RModule w m cs.toList) : Calls Try.prog 4 #[.agg cs] w fun e w' => e = .returned (.bool true) ∧ Below w.heap.size w w' := by
  obtain ⟨qa, qb, qc, qd, qe, qf, qg⟩ := m
  obtain ⟨l⟩ := cs
  obtain ⟨vqb, vqc, vqe, vqf, vqg, e, hsqa, hqb, hqc, hqe, hqf, hqg⟩ := h
  have e' : l = _ := e
  subst e'
  clear e
  obtain ⟨aqb, cqb, rfl, hmqb⟩ := hqb.form
  clear hmqb
  obtain ⟨aqc, cqc, rfl, hmqc⟩ := hqc.form
  clear hmqc
  obtain ⟨aqe, cqe, rfl, hmqe⟩ := hqe.form
  clear hmqe
  obtain ⟨aqf, cqf, rfl, hmqf⟩ := hqf.form
  clear hmqf
  obtain ⟨aqg, cqg, rfl, hmqg⟩ := hqg.form
  clear hmqg
  obtain ⟨tf, htf⟩ : ∃ t, fewB ⟨qa, qb, qc, qd, qe, qf, qg⟩ = t := ⟨_, rfl⟩
  obtain ⟨tr, htr⟩ : ∃ t, rightModule ⟨qa, qb, qc, qd, qe, qf, qg⟩ = t := ⟨_, rfl⟩
  have CF : Hid (∀ W, Below w.heap.size w W → Calls Try.prog 10 #[.agg #[.string qa, .slice aqb qb.length cqb, .slice aqc qc.length cqc, .int .i64 qd, .slice aqe qe.length cqe, .slice aqf qf.length cqf, .slice aqg qg.length cqg]] W fun e w' => e = .returned (.bool tf) ∧ Below W.heap.size W w') := fun W hB => by rw [← htf]; exact few_core qa qb qc qd qe qf qg (.slice aqb qb.length cqb) (.slice aqc qc.length cqc) (.slice aqe qe.length cqe) (.slice aqf qf.length cqf) (.slice aqg qg.length cqg) W (hqb.keep hB (fun _ _ h => h.below hB)) (hqc.keep hB (fun _ _ h => h.below hB)) (hqe.keep hB (fun _ _ h => h.below hB)) (hqf.below hB) (hqg.below hB)
  have CR : Hid (∀ W, Below w.heap.size w W → Calls Try.prog 11 #[.agg #[.string qa, .slice aqb qb.length cqb, .slice aqc qc.length cqc, .int .i64 qd, .slice aqe qe.length cqe, .slice aqf qf.length cqf, .slice aqg qg.length cqg]] W fun e w' => e = .returned (.bool tr) ∧ Below W.heap.size W w') := fun W hB => by rw [← htr]; exact rightModule_core qa qb qc qd qe qf qg (.slice aqb qb.length cqb) (.slice aqc qc.length cqc) (.slice aqe qe.length cqe) (.slice aqf qf.length cqf) (.slice aqg qg.length cqg) W hsqa (hqb.keep hB (fun _ _ h => h.below hB)) (hqc.keep hB (fun _ _ h => h.below hB)) (hqe.keep hB (fun _ _ h => h.below hB)) (hqf.below hB) (hqg.below hB)
  have CQ : Hid (∀ W, Below w.heap.size w W → Calls Try.prog 12 #[.agg #[.string qa, .slice aqb qb.length cqb, .slice aqc qc.length cqc, .int .i64 qd, .slice aqe qe.length cqe, .slice aqf qf.length cqf, .slice aqg qg.length cqg]] W fun e w' => e = .returned (.bool tr) ∧ Below W.heap.size W w') := fun W hB => by rw [← htr]; exact rright_any qa qb qc qd qe qf qg (.slice aqb qb.length cqb) (.slice aqc qc.length cqc) (.slice aqe qe.length cqe) (.slice aqf qf.length cqf) (.slice aqg qg.length cqg) W hsqa (hqb.keep hB (fun _ _ h => h.below hB)) (hqc.keep hB (fun _ _ h => h.below hB)) (hqe.keep hB (fun _ _ h => h.below hB)) (hqf.below hB) (hqg.below hB)
  clear htf htr hqb hqc hqe hqf hqg hsqa
  have hbb : (tr == tr) = true := by cases tr <;> rfl
  go_enter Try.func4, Try.ntmps4
  go_wp2_with fail
  obtain ⟨W0, hW0⟩ : ∃ W0, w.alloc (.cells #[.string qa, .slice aqb qb.length cqb, .slice aqc qc.length cqc, .int .i64 qd, .slice aqe qe.length cqe, .slice aqf qf.length cqf, .slice aqg qg.length cqg] 30) = W0 := ⟨_, rfl⟩
  have HC : Hid (∀ (j : Nat) u, [.string qa, .slice aqb qb.length cqb, .slice aqc qc.length cqc, .int .i64 qd, .slice aqe qe.length cqe, .slice aqf qf.length cqf, .slice aqg qg.length cqg][j]? = some u → W0.cell? ⟨w.heap.size, j, none⟩ = some u) := fun j u hu => by rw [← hW0, World.cell?_alloc_new]; simpa using hu
  have BW : Hid (Below w.heap.size w W0) := by rw [← hW0]; exact (Below.refl _ _).alloc (Nat.le_refl _) _
  rw [hW0]
  clear hW0
  with_reducible refine (CF.out _ BW.out).mono ?_
  rintro e W1 ⟨rfl, b⟩
  have B1 : Hid (Below W0.heap.size W0 W1) := b
  clear b
  cases tf with
  | false =>
    go_wp2_with fail
    refine (told_any W1).mono ?_
    rintro e W2 ⟨rfl, b⟩
    have B2 : Hid (Below w.heap.size w W2) := BW.out.trans ((B1.out.trans (b.mono B1.out.size)).mono BW.out.size)
    clear b
    go_wp2_with fail
    go_ret
    exact ⟨rfl, B2.out⟩
  | true =>
    go_wp2_with fail
    have KEEP : Hid (∀ w1 w2 : World, Below W0.heap.size W0 w1 → Below w1.heap.size w1 w2 → (fun w' => Below W0.heap.size W0 w' ∧ w'.cell? ⟨w.heap.size, 0, none⟩ = some (.string qa) ∧ w'.cell? ⟨w.heap.size, 1, none⟩ = some (.slice aqb qb.length cqb) ∧ w'.cell? ⟨w.heap.size, 2, none⟩ = some (.slice aqc qc.length cqc) ∧ w'.cell? ⟨w.heap.size, 3, none⟩ = some (.int .i64 qd) ∧ w'.cell? ⟨w.heap.size, 4, none⟩ = some (.slice aqe qe.length cqe) ∧ w'.cell? ⟨w.heap.size, 5, none⟩ = some (.slice aqf qf.length cqf) ∧ w'.cell? ⟨w.heap.size, 6, none⟩ = some (.slice aqg qg.length cqg)) w2) := fun w1 w2 h1 h2 => by
      have hb := h1.trans (h2.mono h1.size)
      exact ⟨hb, cell_later hb (HC.out 0 _ rfl), cell_later hb (HC.out 1 _ rfl), cell_later hb (HC.out 2 _ rfl), cell_later hb (HC.out 3 _ rfl), cell_later hb (HC.out 4 _ rfl), cell_later hb (HC.out 5 _ rfl), cell_later hb (HC.out 6 _ rfl)⟩
    refine wp_region_held_drew (S := (fun w' => Below W0.heap.size W0 w' ∧ w'.cell? ⟨w.heap.size, 0, none⟩ = some (.string qa) ∧ w'.cell? ⟨w.heap.size, 1, none⟩ = some (.slice aqb qb.length cqb) ∧ w'.cell? ⟨w.heap.size, 2, none⟩ = some (.slice aqc qc.length cqc) ∧ w'.cell? ⟨w.heap.size, 3, none⟩ = some (.int .i64 qd) ∧ w'.cell? ⟨w.heap.size, 4, none⟩ = some (.slice aqe qe.length cqe) ∧ w'.cell? ⟨w.heap.size, 5, none⟩ = some (.slice aqf qf.length cqf) ∧ w'.cell? ⟨w.heap.size, 6, none⟩ = some (.slice aqg qg.length cqg))) (by kernel_rfl) ?_ (fun hHeld => ?_)
    · exact KEEP.out _ _ B1.out (Below.refl _ _).drew
    have HP0 := hHeld
    clear hHeld
    refine wpAnyH_ready (rs := [0]) (by kernel_rfl) (by simp) ?_
    refine AllReadyH.cons rfl (fun K hK => ?_) AllReadyH.nil
    go_simp
    with_reducible refine (told_any _).mono ?_
    rintro e W2 ⟨rfl, b⟩
    refine hK.out _ _ ?_ (fun hHeld => ?_)
    · exact KEEP.out _ _ HP0.1 b
    clear hK K b HP0
    try simp only [Act.put, List.setIfInBounds_toArray, List.set_cons_zero, List.set_cons_succ]
    refine takeD (i := 1) (d := some 8) (v := ?_) _ rfl rfl (by kernel_rfl) (by kernel_rfl) (by kernel_rfl) (fun _ _ _ h => h) (by rfl) ?_ (by assumption) ?_
    rotate_left
    · (intro w hSw; (try dsimp only at hSw); go_simp) <;> with_reducible rfl
    try simp only [Act.put, List.setIfInBounds_toArray, List.set_cons_zero, List.set_cons_succ]
    refine takeD (i := 2) (d := some 9) (v := ?_) _ rfl rfl (by kernel_rfl) (by kernel_rfl) (by kernel_rfl) (fun _ _ _ h => h) (by rfl) ?_ (by assumption) ?_
    rotate_left
    · (intro w hSw; (try dsimp only at hSw); go_simp) <;> with_reducible rfl
    try simp only [Act.put, List.setIfInBounds_toArray, List.set_cons_zero, List.set_cons_succ]
    refine takeD (i := 4) (d := some 11) (v := ?_) _ rfl rfl (by kernel_rfl) (by kernel_rfl) (by kernel_rfl) (fun _ _ _ h => h) (by rfl) ?_ (by assumption) ?_
    rotate_left
    · (intro w hSw; (try dsimp only at hSw); go_simp) <;> with_reducible rfl
    try simp only [Act.put, List.setIfInBounds_toArray, List.set_cons_zero, List.set_cons_succ]
    have HP3 := hHeld
    clear hHeld
    refine wpAnyH_ready (rs := [3]) (by kernel_rfl) (by simp) ?_
    refine AllReadyH.cons rfl (fun K hK => ?_) AllReadyH.nil
    go_simp
    with_reducible refine (CR.out _ (BW.out.trans (HP3.1.mono BW.out.size))).mono ?_
    rintro e W3 ⟨rfl, b⟩
    refine hK.out _ _ ?_ (fun hHeld => ?_)
    · exact KEEP.out _ _ HP3.1 b
    clear hK K b HP3
    try simp only [Act.put, List.setIfInBounds_toArray, List.set_cons_zero, List.set_cons_succ]
    have HP5 := hHeld
    clear hHeld
    refine wpAnyH_ready (rs := [5]) (by kernel_rfl) (by simp) ?_
    refine AllReadyH.cons rfl (fun K hK => ?_) AllReadyH.nil
    go_simp
    with_reducible refine (CQ.out _ (BW.out.trans (HP5.1.mono BW.out.size))).mono ?_
    rintro e W4 ⟨rfl, b⟩
    refine hK.out _ _ ?_ (fun hHeld => ?_)
    · exact KEEP.out _ _ HP5.1 b
    clear hK K b HP5
    try simp only [Act.put, List.setIfInBounds_toArray, List.set_cons_zero, List.set_cons_succ]
    refine takeD (i := 6) (d := some 13) (v := ?_) _ rfl rfl (by kernel_rfl) (by kernel_rfl) (by kernel_rfl) (fun _ _ _ h => h) (by rfl) ?_ (by assumption) ?_
    rotate_left
    · (intro w hSw; (try dsimp only at hSw); go_simp) <;> with_reducible rfl
    try simp only [Act.put, List.setIfInBounds_toArray, List.set_cons_zero, List.set_cons_succ]
    refine takeD (i := 7) (d := some 14) (v := ?_) _ rfl rfl (by kernel_rfl) (by kernel_rfl) (by kernel_rfl) (fun _ _ _ h => h) (by rfl) ?_ (by assumption) ?_
    rotate_left
    · (intro w hSw; (try dsimp only at hSw); go_simp) <;> with_reducible rfl
    try simp only [Act.put, List.setIfInBounds_toArray, List.set_cons_zero, List.set_cons_succ]
    refine takeD (i := 8) (d := some 2) (v := ?_) _ rfl rfl (by kernel_rfl) (by kernel_rfl) (by kernel_rfl) (fun _ _ _ h => h) (by rfl) ?_ (by assumption) ?_
    rotate_left
    · (intro w hSw; (try dsimp only at hSw); go_simp) <;> with_reducible rfl
    try simp only [Act.put, List.setIfInBounds_toArray, List.set_cons_zero, List.set_cons_succ]
    refine wpAnyH_done (by kernel_rfl) ?_ _
    have B4 := Lib.hid (BW.out.trans (hHeld.1.mono BW.out.size))
    clear hHeld
    go_wp2_with fail
    go_ret
    exact ⟨rfl, B4.out⟩
end Go.Proofs.Ytchlgihanogeeaa
