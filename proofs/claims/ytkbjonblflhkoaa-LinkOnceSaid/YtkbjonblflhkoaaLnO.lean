/-
  How a law begins; what comes in. Each statement bears its own conditions.
-/
import Derived.Test.YtkbjonblflhkoaaLnK
namespace Go.Proofs.Ytkbjonblflhkoaa.Ln
open Go.RowKit Go.Proofs.Ytkbjonblflhkoaa.F Go.Proofs.Ytkbjonblflhkoaa.U Go.Proofs.Ytkbjonblflhkoaa.Q
set_option linter.unusedVariables false
set_option linter.unusedSimpArgs false
theorem results_tmp_cell {P : Program} {fn : Func} {p q : Tmp} {ty : TypeId} (h : fn.results = #[.tmp q, .cell p ty]) (tmps : Array Value) (w : World) (g : Nat) (cs : List Value) (d : TypeDesc)
    (hp : tmps.getD p undef = .pointer (some ⟨g, 0, none⟩)) (hc : w.rangeAt g 0 cs)
    (hu : P.underlying ty = some d) (hd : d.isRow = true) (hi : (P.info? ty).map (·.size) = some cs.length) :
    (results fn tmps).run P w = .ok (.tuple #[tmps.getD q undef, .agg cs.toArray]) w := by
  have hp' : tmps[p]?.getD undef = .pointer (some ⟨g, 0, none⟩) := by simpa using hp
  simp [results, h, hp', asAddr, run_loadVar_mid w g 0 ty cs d hc hu hd hi]
theorem u64_tmod (a m : Int) (hm : 0 < m) : 0 ≤ (IntKind.u64.wrap a).tmod m ∧ (IntKind.u64.wrap a).tmod m < m := by
  have h : 0 ≤ IntKind.u64.wrap a := by rw [IntKind.wrap_u64]; exact Int.emod_nonneg _ (by decide)
  exact ⟨Int.tmod_nonneg _ h, Int.tmod_lt_of_pos _ hm⟩
set_option maxRecDepth 100000 in
set_option maxHeartbeats 8000000 in
theorem begin_any (a b c : Int) (w : World) : Calls Try.prog 10 #[.agg #[.int .i64 a, .int .i64 b, .int .i64 c]] w fun e w' => ∃ s, e = .returned (.tuple #[.pointer (some ⟨w.heap.size + 2, 0, none⟩), .agg #[.int .i64 s.gap, .int .i64 s.words, .int .i64 s.room, .slice none 0 0, .int .i64 s.next, .int .i64 s.rl]]) ∧ SV (w.heap.size + 2) w' (fun x => x = w.heap.size + 2) (fun _ => True) (w.heap.size + 2) s [] ∧ Below w.heap.size w w' := by
  obtain ⟨X, hX⟩ : ∃ X, w.heap.size = X := ⟨_, rfl⟩
  obtain ⟨W0, hW0⟩ : ∃ W0, ((w.alloc (.cells #[.int .i64 a, .int .i64 b, .int .i64 c] 22)).alloc (.cells #[.int .i64 0, .int .i64 0, .int .i64 0, .slice none 0 0, .int .i64 0, .int .i64 0] 27)) = W0 := ⟨_, rfl⟩
  have B0 : Hid (Below X w W0) := by rw [← hW0, ← hX]; exact (((Below.refl _ _).alloc (by first | exact Nat.le_refl _ | (simp; done) | (simp; omega)) _).alloc (by first | exact Nat.le_refl _ | (simp; done) | (simp; omega)) _)
  have S0 : Hid (W0.heap.size = X + 2) := by unfold Hid; rw [← hW0, ← hX]; simp
  have HB0 : Hid (W0.heap[X]? = some (.cells #[.int .i64 a, .int .i64 b, .int .i64 c] 22 (0, 0))) := by
    have h0 := heap_alloc_new w (.cells #[.int .i64 a, .int .i64 b, .int .i64 c] 22)
    unfold Hid
    rw [← hW0, ← hX]
    have h1 : (w.alloc (.cells #[.int .i64 a, .int .i64 b, .int .i64 c] 22)).heap[w.heap.size]? = some (.cells #[.int .i64 a, .int .i64 b, .int .i64 c] 22 (0, 0)) := by simpa using h0
    have h2 : ((w.alloc (.cells #[.int .i64 a, .int .i64 b, .int .i64 c] 22)).alloc (.cells #[.int .i64 0, .int .i64 0, .int .i64 0, .slice none 0 0, .int .i64 0, .int .i64 0] 27)).heap[w.heap.size]? = some (.cells #[.int .i64 a, .int .i64 b, .int .i64 c] 22 (0, 0)) := (heap_old _ _ (by first | (simp; done) | (simp; omega))).trans h1
    exact h2
  have HB1 : Hid (W0.heap[X + 1]? = some (.cells #[.int .i64 0, .int .i64 0, .int .i64 0, .slice none 0 0, .int .i64 0, .int .i64 0] 27 (0, 0))) := by
    have h0 := heap_alloc_new (w.alloc (.cells #[.int .i64 a, .int .i64 b, .int .i64 c] 22)) (.cells #[.int .i64 0, .int .i64 0, .int .i64 0, .slice none 0 0, .int .i64 0, .int .i64 0] 27)
    unfold Hid
    rw [← hW0, ← hX]
    have h1 : ((w.alloc (.cells #[.int .i64 a, .int .i64 b, .int .i64 c] 22)).alloc (.cells #[.int .i64 0, .int .i64 0, .int .i64 0, .slice none 0 0, .int .i64 0, .int .i64 0] 27)).heap[w.heap.size + 1]? = some (.cells #[.int .i64 0, .int .i64 0, .int .i64 0, .slice none 0 0, .int .i64 0, .int .i64 0] 27 (0, 0)) := by simpa using h0
    exact h1
  have x0 : W0.cell? ⟨X, 0, none⟩ = some (.int .i64 a) := by rw [(row_cell HB0.out 0).1]; rfl
  have x1 : W0.cell? ⟨X, 1, none⟩ = some (.int .i64 b) := by rw [(row_cell HB0.out 1).1]; rfl
  have x2 : W0.cell? ⟨X, 2, none⟩ = some (.int .i64 c) := by rw [(row_cell HB0.out 2).1]; rfl
  rw [hX]
  obtain ⟨ga, hga⟩ : ∃ x, (IntKind.u64.wrap a).tmod 1048577 = x := ⟨_, rfl⟩
  obtain ⟨wb, hwb⟩ : ∃ x, (IntKind.u64.wrap b).tmod 32 = x := ⟨_, rfl⟩
  obtain ⟨rc, hrc⟩ : ∃ x, (IntKind.u64.wrap c).tmod 32 = x := ⟨_, rfl⟩
  have b1 := u64_tmod a 1048577 (by decide)
  have b2 := u64_tmod b 32 (by decide)
  have b3 := u64_tmod c 32 (by decide)
  rw [hga] at b1
  rw [hwb] at b2
  rw [hrc] at b3
  have HB : Hid ((0 ≤ ga ∧ ga ≤ 1048576) ∧ (1 ≤ 1 + wb ∧ 1 + wb ≤ 32) ∧ (1 ≤ 1 + rc ∧ 1 + rc ≤ 32)) := by unfold Hid; omega
  have v1 : IntKind.i64.wrap ga = ga := IntWalk.i64_in _ ⟨by omega, by omega⟩
  have v2 : IntKind.i64.wrap wb = wb := IntWalk.i64_in _ ⟨by omega, by omega⟩
  have v3 : IntKind.i64.wrap rc = rc := IntWalk.i64_in _ ⟨by omega, by omega⟩
  have v4 : IntKind.i64.wrap (1 + wb) = 1 + wb := IntWalk.i64_in _ ⟨by omega, by omega⟩
  have v5 : IntKind.i64.wrap (1 + rc) = 1 + rc := IntWalk.i64_in _ ⟨by omega, by omega⟩
  have NW : Hid (∀ W, Calls Try.prog 13 #[.int .i64 ga, .int .i64 (1 + wb), .int .i64 (1 + rc)] W fun e w' => e = .returned (.tuple #[.pointer (some ⟨W.heap.size, 0, none⟩), .int .i64 0]) ∧ SV W.heap.size w' (fun b => b = W.heap.size) (fun _ => True) W.heap.size ⟨ga, 1 + wb, 1 + rc, 0, false, 0⟩ [] ∧ Below W.heap.size W w') := fun W => new_any (fun _ => True) ga (1 + wb) (1 + rc) W HB.out.1 HB.out.2.1 HB.out.2.2
  clear b1 b2 b3
  go_enter Try.func10, Try.ntmps10
  go_wp2_with fail
  refine wp_region_held_drew (S := (fun w' => Below W0.heap.size W0 w' ∧ w'.cell? ⟨X, 0, none⟩ = some (.int .i64 a) ∧ w'.cell? ⟨X, 1, none⟩ = some (.int .i64 b) ∧ w'.cell? ⟨X, 2, none⟩ = some (.int .i64 c))) (by kernel_rfl) ?_ (fun hHeld => ?_)
  · exact ⟨(Below.refl _ _).drew, x0, x1, x2⟩
  refine takeD (i := 0) (d := some 9) (v := ?_) _ rfl rfl (by kernel_rfl) (by kernel_rfl) (by kernel_rfl) (fun _ _ _ h => h) (by rfl) ?_ (by assumption) ?_
  rotate_left
  · (intro w hSw; (try dsimp only at hSw); go_simp) <;> with_reducible rfl
  try simp only [Act.put, List.setIfInBounds_toArray, List.set_cons_zero, List.set_cons_succ]
  refine takeD (i := 1) (d := some 10) (v := ?_) _ rfl rfl (by kernel_rfl) (by kernel_rfl) (by kernel_rfl) (fun _ _ _ h => h) (by rfl) ?_ (by assumption) ?_
  rotate_left
  · (intro w hSw; (try dsimp only at hSw); go_simp) <;> with_reducible rfl
  try simp only [Act.put, List.setIfInBounds_toArray, List.set_cons_zero, List.set_cons_succ]
  refine takeD (i := 2) (d := some 11) (v := ?_) _ rfl rfl (by kernel_rfl) (by kernel_rfl) (by kernel_rfl) (fun _ _ _ h => h) (by rfl) ?_ (by assumption) ?_
  rotate_left
  · (intro w hSw; (try dsimp only at hSw); go_simp) <;> with_reducible rfl
  try simp only [Act.put, List.setIfInBounds_toArray, List.set_cons_zero, List.set_cons_succ]
  refine takeD (i := 3) (d := some 12) (v := ?_) _ rfl rfl (by kernel_rfl) (by kernel_rfl) (by kernel_rfl) (fun _ _ _ h => h) (by rfl) ?_ (by assumption) ?_
  rotate_left
  · (intro w hSw; (try dsimp only at hSw); go_simp) <;> with_reducible rfl
  try simp only [Act.put, List.setIfInBounds_toArray, List.set_cons_zero, List.set_cons_succ]
  refine takeD (i := 4) (d := some 13) (v := ?_) _ rfl rfl (by kernel_rfl) (by kernel_rfl) (by kernel_rfl) (fun _ _ _ h => h) (by rfl) ?_ (by assumption) ?_
  rotate_left
  · (intro w hSw; (try dsimp only at hSw); go_simp) <;> with_reducible rfl
  try simp only [Act.put, List.setIfInBounds_toArray, List.set_cons_zero, List.set_cons_succ]
  refine takeD (i := 5) (d := some 14) (v := ?_) _ rfl rfl (by kernel_rfl) (by kernel_rfl) (by kernel_rfl) (fun _ _ _ h => h) (by rfl) ?_ (by assumption) ?_
  rotate_left
  · (intro w hSw; (try dsimp only at hSw); go_simp) <;> with_reducible rfl
  try simp only [Act.put, List.setIfInBounds_toArray, List.set_cons_zero, List.set_cons_succ]
  refine takeD (i := 6) (d := some 15) (v := ?_) _ rfl rfl (by kernel_rfl) (by kernel_rfl) (by kernel_rfl) (fun _ _ _ h => h) (by rfl) ?_ (by assumption) ?_
  rotate_left
  · (intro w hSw; (try dsimp only at hSw); go_simp) <;> with_reducible rfl
  try simp only [Act.put, List.setIfInBounds_toArray, List.set_cons_zero, List.set_cons_succ]
  refine takeD (i := 7) (d := some 16) (v := ?_) _ rfl rfl (by kernel_rfl) (by kernel_rfl) (by kernel_rfl) (fun _ _ _ h => h) (by rfl) ?_ (by assumption) ?_
  rotate_left
  · (intro w hSw; (try dsimp only at hSw); go_simp) <;> with_reducible rfl
  try simp only [Act.put, List.setIfInBounds_toArray, List.set_cons_zero, List.set_cons_succ]
  refine takeD (i := 8) (d := some 17) (v := ?_) _ rfl rfl (by kernel_rfl) (by kernel_rfl) (by kernel_rfl) (fun _ _ _ h => h) (by rfl) ?_ (by assumption) ?_
  rotate_left
  · (intro w hSw; (try dsimp only at hSw); go_simp) <;> with_reducible rfl
  try simp only [Act.put, List.setIfInBounds_toArray, List.set_cons_zero, List.set_cons_succ]
  refine takeD (i := 9) (d := some 18) (v := ?_) _ rfl rfl (by kernel_rfl) (by kernel_rfl) (by kernel_rfl) (fun _ _ _ h => h) (by rfl) ?_ (by assumption) ?_
  rotate_left
  · (intro w hSw; (try dsimp only at hSw); go_simp) <;> with_reducible rfl
  try simp only [Act.put, List.setIfInBounds_toArray, List.set_cons_zero, List.set_cons_succ]
  refine takeD (i := 10) (d := some 19) (v := ?_) _ rfl rfl (by kernel_rfl) (by kernel_rfl) (by kernel_rfl) (fun _ _ _ h => h) (by rfl) ?_ (by assumption) ?_
  rotate_left
  · (intro w hSw; (try dsimp only at hSw); go_simp) <;> with_reducible rfl
  try simp only [Act.put, List.setIfInBounds_toArray, List.set_cons_zero, List.set_cons_succ]
  refine takeD (i := 11) (d := some 20) (v := ?_) _ rfl rfl (by kernel_rfl) (by kernel_rfl) (by kernel_rfl) (fun _ _ _ h => h) (by rfl) ?_ (by assumption) ?_
  rotate_left
  · (intro w hSw; (try dsimp only at hSw); go_simp) <;> with_reducible rfl
  try simp only [Act.put, List.setIfInBounds_toArray, List.set_cons_zero, List.set_cons_succ]
  refine takeD (i := 12) (d := some 21) (v := ?_) _ rfl rfl (by kernel_rfl) (by kernel_rfl) (by kernel_rfl) (fun _ _ _ h => h) (by rfl) ?_ (by assumption) ?_
  rotate_left
  · (intro w hSw; (try dsimp only at hSw); go_simp) <;> with_reducible rfl
  try simp only [Act.put, List.setIfInBounds_toArray, List.set_cons_zero, List.set_cons_succ]
  refine takeD (i := 13) (d := some 22) (v := ?_) _ rfl rfl (by kernel_rfl) (by kernel_rfl) (by kernel_rfl) (fun _ _ _ h => h) (by rfl) ?_ (by assumption) ?_
  rotate_left
  · (intro w hSw; (try dsimp only at hSw); go_simp) <;> with_reducible rfl
  try simp only [Act.put, List.setIfInBounds_toArray, List.set_cons_zero, List.set_cons_succ]
  refine takeD (i := 14) (d := some 23) (v := ?_) _ rfl rfl (by kernel_rfl) (by kernel_rfl) (by kernel_rfl) (fun _ _ _ h => h) (by rfl) ?_ (by assumption) ?_
  rotate_left
  · (intro w hSw; (try dsimp only at hSw); go_simp) <;> with_reducible rfl
  try simp only [Act.put, List.setIfInBounds_toArray, List.set_cons_zero, List.set_cons_succ]
  refine takeD (i := 15) (d := some 24) (v := ?_) _ rfl rfl (by kernel_rfl) (by kernel_rfl) (by kernel_rfl) (fun _ _ _ h => h) (by rfl) ?_ (by assumption) ?_
  rotate_left
  · (intro w hSw; (try dsimp only at hSw); go_simp) <;> with_reducible rfl
  try simp only [Act.put, List.setIfInBounds_toArray, List.set_cons_zero, List.set_cons_succ]
  refine takeD (i := 16) (d := some 25) (v := ?_) _ rfl rfl (by kernel_rfl) (by kernel_rfl) (by kernel_rfl) (fun _ _ _ h => h) (by rfl) ?_ (by assumption) ?_
  rotate_left
  · (intro w hSw; (try dsimp only at hSw); go_simp) <;> with_reducible rfl
  try simp only [Act.put, List.setIfInBounds_toArray, List.set_cons_zero, List.set_cons_succ]
  refine takeD (i := 17) (d := some 4) (v := ?_) _ rfl rfl (by kernel_rfl) (by kernel_rfl) (by kernel_rfl) (fun _ _ _ h => h) (by rfl) ?_ (by assumption) ?_
  rotate_left
  · (intro w hSw; (try dsimp only at hSw); go_simp) <;> with_reducible rfl
  try simp only [Act.put, List.setIfInBounds_toArray, List.set_cons_zero, List.set_cons_succ]
  refine takeD (i := 18) (d := some 5) (v := ?_) _ rfl rfl (by kernel_rfl) (by kernel_rfl) (by kernel_rfl) (fun _ _ _ h => h) (by rfl) ?_ (by assumption) ?_
  rotate_left
  · (intro w hSw; (try dsimp only at hSw); go_simp) <;> with_reducible rfl
  try simp only [Act.put, List.setIfInBounds_toArray, List.set_cons_zero, List.set_cons_succ]
  refine takeD (i := 19) (d := some 6) (v := ?_) _ rfl rfl (by kernel_rfl) (by kernel_rfl) (by kernel_rfl) (fun _ _ _ h => h) (by rfl) ?_ (by assumption) ?_
  rotate_left
  · (intro w hSw; (try dsimp only at hSw); go_simp) <;> with_reducible rfl
  try simp only [Act.put, List.setIfInBounds_toArray, List.set_cons_zero, List.set_cons_succ]
  refine wpAnyH_done (by kernel_rfl) ?_ _
  obtain ⟨V, hV⟩ : ∃ V, W0.drew = V := ⟨_, rfl⟩
  have hVs : V.heap.size = X + 2 := by rw [← hV]; exact S0.out
  rw [hV] at hHeld
  rw [hV]
  have BV := Lib.hid hHeld.1
  clear hHeld hV x0 x1 x2
  have NV := Lib.hid (NW.out V)
  rw [hVs] at NV
  go_wp2_with fail
  refine NV.out.mono ?_
  rintro e w2 ⟨rfl, q2, b2⟩
  have Q2 := Lib.hid q2
  have B2 : Hid (Below (X + 2) V w2) := b2
  have HV2 : Hid (V.heap.size = X + 2 ∧ W0.heap.size = X + 2) := ⟨hVs, S0.out⟩
  have HY2 : Hid (w2.heap[X + 1]? = some (.cells #[.int .i64 0, .int .i64 0, .int .i64 0, .slice none 0 0, .int .i64 0, .int .i64 0] 27 (0, 0))) := (B2.out.block _ (by omega)).trans ((BV.out.block _ (by have := HV2.out; omega)).trans HB1.out)
  clear q2 b2 NV NW hga hwb hrc v1 v2 v3 v4 v5 hVs
  have y0 : w2.cell? ⟨X + 1, 0, none⟩ = some (.int .i64 0) := by rw [(row_cell HY2.out 0).1]; rfl
  have y1 : w2.cell? ⟨X + 1, 1, none⟩ = some (.int .i64 0) := by rw [(row_cell HY2.out 1).1]; rfl
  have y2 : w2.cell? ⟨X + 1, 2, none⟩ = some (.int .i64 0) := by rw [(row_cell HY2.out 2).1]; rfl
  have y3 : w2.cell? ⟨X + 1, 3, none⟩ = some (.slice none 0 0) := by rw [(row_cell HY2.out 3).1]; rfl
  have y4 : w2.cell? ⟨X + 1, 4, none⟩ = some (.int .i64 0) := by rw [(row_cell HY2.out 4).1]; rfl
  have y5 : w2.cell? ⟨X + 1, 5, none⟩ = some (.int .i64 0) := by rw [(row_cell HY2.out 5).1]; rfl
  have yf0 : w2.frozen? ⟨X + 1, 0, none⟩ = false := (row_cell HY2.out 0).2
  have yf1 : w2.frozen? ⟨X + 1, 1, none⟩ = false := (row_cell HY2.out 1).2
  have yf2 : w2.frozen? ⟨X + 1, 2, none⟩ = false := (row_cell HY2.out 2).2
  have yf3 : w2.frozen? ⟨X + 1, 3, none⟩ = false := (row_cell HY2.out 3).2
  have yf4 : w2.frozen? ⟨X + 1, 4, none⟩ = false := (row_cell HY2.out 4).2
  have yf5 : w2.frozen? ⟨X + 1, 5, none⟩ = false := (row_cell HY2.out 5).2
  go_wp2_with fail
  refine bodyPost_ret (results_tmp_cell rfl _ _ (X + 1) _ _ rfl (set_six HY2.out _ _ _ _ _ _) Try.underlying27 rfl (by kernel_rfl)) rfl ?_
  have hf : Fo (fun b => b = X + 1) w2 ((((((w2.setCell ⟨X + 1, 0, none⟩ (.int .i64 ga)).setCell ⟨X + 1, 1, none⟩ (.int .i64 (1 + wb))).setCell ⟨X + 1, 2, none⟩ (.int .i64 (1 + rc))).setCell ⟨X + 1, 3, none⟩ (.slice none 0 0)).setCell ⟨X + 1, 4, none⟩ (.int .i64 0)).setCell ⟨X + 1, 5, none⟩ (.int .i64 (-1))) := (((((((Fo.refl (fun b => b = X + 1) w2).setCell (.inl rfl) 0 _).setCell (.inl rfl) 1 _).setCell (.inl rfl) 2 _).setCell (.inl rfl) 3 _).setCell (.inl rfl) 4 _).setCell (.inl rfl) 5 _)
  refine ⟨⟨ga, 1 + wb, 1 + rc, 0, false, 0⟩, rfl, Q2.out.fot hf (fun b hb e => by omega) (fun b hb _ => by subst hb; exact ⟨_, _, _, HY2.out, by decide⟩), ?_⟩
  exact (B0.out.trans ((BV.out.mono (by have := HV2.out; omega)).trans (B2.out.mono (by omega)))).trans (hf.below (fun b hb => by omega) (by have := B2.out.size; have := HV2.out; omega))
end Go.Proofs.Ytkbjonblflhkoaa.Ln
