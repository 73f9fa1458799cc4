/-
  The law's send. Each statement bears its own conditions.
-/
import Derived.Test.YtkbjonblflhkoaaLnT
namespace Go.Proofs.Ytkbjonblflhkoaa.Ln
open Go.RowKit Go.Proofs.Ytkbjonblflhkoaa.F Go.Proofs.Ytkbjonblflhkoaa.U Go.Proofs.Ytkbjonblflhkoaa.Q
set_option linter.unusedVariables false
set_option linter.unusedSimpArgs false
theorem Sq_take {w : World} {p : Nat → Prop} {A : Option Addr} {n c j : Nat} {xs : List Value} (h : Sq w p (.slice A n c) n xs) (hj : j ≤ n) : Sq w p (.slice A j c) j (xs.take j) := by
  have hl := h.len
  refine ⟨A, c, rfl, by rw [List.length_take]; omega, fun h0 => ?_⟩
  obtain ⟨_, b, off, rfl, hb, hp, hc⟩ := h.at_ (show 0 < n by omega)
  refine ⟨b, off, rfl, hb, hp, fun i u hu => hc i u ?_⟩
  have hi : i < j := by
    by_cases hi : i < j
    · exact hi
    · rw [List.getElem?_eq_none (by rw [List.length_take]; omega)] at hu; cases hu
  rwa [List.getElem?_take_of_lt hi] at hu
structure SndA (W0 : World) (X : Nat) (PR : Nat → Prop) (s : SS) (LL : List (List Int)) (K : List Int) (jm : Nat) (s8 s9 : Value) (wx : World) : Prop where
  ex : ∃ (N8 : Nat) (A' : Option Addr) (n' c' : Nat) (S' : List Sl), s8 = .pointer (some ⟨N8, 0, none⟩) ∧ s9 = .int .i64 (offE s LL.length jm) ∧ Below W0.heap.size W0 wx ∧ wx.heap[N8]? = some (.cells #[.int .i64 s.gap, .int .i64 s.words, .int .i64 s.room, .slice A' n' c', .int .i64 s.next, .int .i64 s.rl] 27 (0, 0)) ∧ W0.heap.size ≤ N8 ∧ Sq wx (fun b => ((b < X ∧ PR b) ∨ W0.heap.size ≤ b) ∧ b ≠ N8) (.slice A' n' c') n' (CS S') ∧ Ms wx (fun _ => True) S' (offL s LL K) ∧ n' ≤ c'
set_option maxRecDepth 100000 in
set_option maxHeartbeats 16000000 in
theorem send_even (lo : Nat) (p PR PM : Nat → Prop) (g : Nat) (s : SS) (LL : List (List Int)) (Ar : Option Addr) (nr cr : Nat) (S : List Sl) (kd now : Int) (Am : Option Addr) (m cm : Nat) (M : List Int) (w : World) (h : SV lo w p (fun _ => True) g s LL) (hp : Sq w PR (.slice Ar nr cr) nr (CS S)) (hpr : ∀ b, PR b → ¬ p b) (hm : Ms w (fun _ => True) S LL) (hcp : nr ≤ cr) (hmq : Sq w PM (.slice Am m cm) m (CU M)) (hmc : m ≤ cm) (hmn : Am = none → cm = 0) (hk : (kd.tmod 2 == 0) = true) : Calls Try.prog 12 #[.pointer (some ⟨g, 0, none⟩), .agg #[.int .i64 s.gap, .int .i64 s.words, .int .i64 s.room, .slice Ar nr cr, .int .i64 s.next, .int .i64 s.rl], .agg #[.int .i64 kd, .int .i64 now, .slice Am m cm]] w fun e w' => ∃ q s' LL' A' n' c' S', e = .returned (.tuple #[.agg #[.int .i64 s'.gap, .int .i64 s'.words, .int .i64 s'.room, .slice A' n' c', .int .i64 s'.next, .int .i64 s'.rl], .bool true]) ∧ SV lo w' q (fun _ => True) g s' LL' ∧ Nx p q w w' ∧ Sq w' (fun b => ((b < w.heap.size ∧ PR b) ∨ w.heap.size ≤ b) ∧ ¬ q b) (.slice A' n' c') n' (CS S') ∧ Ms w' (fun _ => True) S' LL' ∧ n' ≤ c' := by
  obtain ⟨jm, hjm⟩ : ∃ j, min m 40 = j := ⟨_, rfl⟩
  obtain ⟨K, hK⟩ : ∃ K, M.take jm = K := ⟨_, rfl⟩
  have hMl : M.length = m := by have := hmq.len; simpa [CU] using this
  have hKl : K.length = jm := by rw [← hK, List.length_take, hMl]; omega
  have hkq : Sq w PM (.slice Am jm cm) jm (CU K) := by
    have h1 := Sq_take hmq (show jm ≤ m by omega)
    have h2 : (CU M).take jm = CU K := by rw [← hK]; simp [CU, List.map_take]
    rw [h2] at h1; exact h1
  have CF : Hid (∀ W, Calls Try.prog 30 #[.slice Am m cm] W fun e w' => e = .returned (.slice Am jm cm) ∧ w' = W) := fun W => by rw [← hjm]; exact few_any Am m cm W hmc hmn
  have hln : LL.length = nr := by have := hp.len; rw [hm.mr.len2] at this; exact this
  obtain ⟨X, hX⟩ : ∃ X, w.heap.size = X := ⟨_, rfl⟩
  obtain ⟨W0, hW0⟩ : ∃ W0, (((w.alloc (.cells #[.int .i64 s.gap, .int .i64 s.words, .int .i64 s.room, .slice Ar nr cr, .int .i64 s.next, .int .i64 s.rl] 27)).alloc (.cells #[.int .i64 kd, .int .i64 now, .slice Am m cm] 35)).alloc (.cells #[.int .i64 0, .int .i64 0, .int .i64 0, .slice none 0 0, .int .i64 0, .int .i64 0] 27)) = W0 := ⟨_, rfl⟩
  have B0 : Hid (Below X w W0) := by rw [← hW0, ← hX]; exact ((((Below.refl _ _).alloc (by first | exact Nat.le_refl _ | (simp; done) | (simp; omega)) _).alloc (by first | exact Nat.le_refl _ | (simp; done) | (simp; omega)) _).alloc (by first | exact Nat.le_refl _ | (simp; done) | (simp; omega)) _)
  have S0 : Hid (W0.heap.size = X + 3) := by unfold Hid; rw [← hW0, ← hX]; simp
  have HB0 : Hid (W0.heap[X]? = some (.cells #[.int .i64 s.gap, .int .i64 s.words, .int .i64 s.room, .slice Ar nr cr, .int .i64 s.next, .int .i64 s.rl] 27 (0, 0))) := by
    have h0 := heap_alloc_new w (.cells #[.int .i64 s.gap, .int .i64 s.words, .int .i64 s.room, .slice Ar nr cr, .int .i64 s.next, .int .i64 s.rl] 27)
    unfold Hid
    rw [← hW0, ← hX]
    have h1 : (w.alloc (.cells #[.int .i64 s.gap, .int .i64 s.words, .int .i64 s.room, .slice Ar nr cr, .int .i64 s.next, .int .i64 s.rl] 27)).heap[w.heap.size]? = some (.cells #[.int .i64 s.gap, .int .i64 s.words, .int .i64 s.room, .slice Ar nr cr, .int .i64 s.next, .int .i64 s.rl] 27 (0, 0)) := by simpa using h0
    have h2 : ((w.alloc (.cells #[.int .i64 s.gap, .int .i64 s.words, .int .i64 s.room, .slice Ar nr cr, .int .i64 s.next, .int .i64 s.rl] 27)).alloc (.cells #[.int .i64 kd, .int .i64 now, .slice Am m cm] 35)).heap[w.heap.size]? = some (.cells #[.int .i64 s.gap, .int .i64 s.words, .int .i64 s.room, .slice Ar nr cr, .int .i64 s.next, .int .i64 s.rl] 27 (0, 0)) := (heap_old _ _ (by first | (simp; done) | (simp; omega))).trans h1
    have h3 : (((w.alloc (.cells #[.int .i64 s.gap, .int .i64 s.words, .int .i64 s.room, .slice Ar nr cr, .int .i64 s.next, .int .i64 s.rl] 27)).alloc (.cells #[.int .i64 kd, .int .i64 now, .slice Am m cm] 35)).alloc (.cells #[.int .i64 0, .int .i64 0, .int .i64 0, .slice none 0 0, .int .i64 0, .int .i64 0] 27)).heap[w.heap.size]? = some (.cells #[.int .i64 s.gap, .int .i64 s.words, .int .i64 s.room, .slice Ar nr cr, .int .i64 s.next, .int .i64 s.rl] 27 (0, 0)) := (heap_old _ _ (by first | (simp; done) | (simp; omega))).trans h2
    exact h3
  have HB1 : Hid (W0.heap[X + 1]? = some (.cells #[.int .i64 kd, .int .i64 now, .slice Am m cm] 35 (0, 0))) := by
    have h0 := heap_alloc_new (w.alloc (.cells #[.int .i64 s.gap, .int .i64 s.words, .int .i64 s.room, .slice Ar nr cr, .int .i64 s.next, .int .i64 s.rl] 27)) (.cells #[.int .i64 kd, .int .i64 now, .slice Am m cm] 35)
    unfold Hid
    rw [← hW0, ← hX]
    have h1 : ((w.alloc (.cells #[.int .i64 s.gap, .int .i64 s.words, .int .i64 s.room, .slice Ar nr cr, .int .i64 s.next, .int .i64 s.rl] 27)).alloc (.cells #[.int .i64 kd, .int .i64 now, .slice Am m cm] 35)).heap[w.heap.size + 1]? = some (.cells #[.int .i64 kd, .int .i64 now, .slice Am m cm] 35 (0, 0)) := by simpa using h0
    have h2 : (((w.alloc (.cells #[.int .i64 s.gap, .int .i64 s.words, .int .i64 s.room, .slice Ar nr cr, .int .i64 s.next, .int .i64 s.rl] 27)).alloc (.cells #[.int .i64 kd, .int .i64 now, .slice Am m cm] 35)).alloc (.cells #[.int .i64 0, .int .i64 0, .int .i64 0, .slice none 0 0, .int .i64 0, .int .i64 0] 27)).heap[w.heap.size + 1]? = some (.cells #[.int .i64 kd, .int .i64 now, .slice Am m cm] 35 (0, 0)) := (heap_old _ _ (by first | (simp; done) | (simp; omega))).trans h1
    exact h2
  have HB2 : Hid (W0.heap[X + 2]? = some (.cells #[.int .i64 0, .int .i64 0, .int .i64 0, .slice none 0 0, .int .i64 0, .int .i64 0] 27 (0, 0))) := by
    have h0 := heap_alloc_new ((w.alloc (.cells #[.int .i64 s.gap, .int .i64 s.words, .int .i64 s.room, .slice Ar nr cr, .int .i64 s.next, .int .i64 s.rl] 27)).alloc (.cells #[.int .i64 kd, .int .i64 now, .slice Am m cm] 35)) (.cells #[.int .i64 0, .int .i64 0, .int .i64 0, .slice none 0 0, .int .i64 0, .int .i64 0] 27)
    unfold Hid
    rw [← hW0, ← hX]
    have h1 : (((w.alloc (.cells #[.int .i64 s.gap, .int .i64 s.words, .int .i64 s.room, .slice Ar nr cr, .int .i64 s.next, .int .i64 s.rl] 27)).alloc (.cells #[.int .i64 kd, .int .i64 now, .slice Am m cm] 35)).alloc (.cells #[.int .i64 0, .int .i64 0, .int .i64 0, .slice none 0 0, .int .i64 0, .int .i64 0] 27)).heap[w.heap.size + 2]? = some (.cells #[.int .i64 0, .int .i64 0, .int .i64 0, .slice none 0 0, .int .i64 0, .int .i64 0] 27 (0, 0)) := by simpa using h0
    exact h1
  have x0 : W0.cell? ⟨X, 0, none⟩ = some (.int .i64 s.gap) := by rw [(row_cell HB0.out 0).1]; rfl
  have x1 : W0.cell? ⟨X, 1, none⟩ = some (.int .i64 s.words) := by rw [(row_cell HB0.out 1).1]; rfl
  have x2 : W0.cell? ⟨X, 2, none⟩ = some (.int .i64 s.room) := by rw [(row_cell HB0.out 2).1]; rfl
  have x3 : W0.cell? ⟨X, 3, none⟩ = some (.slice Ar nr cr) := by rw [(row_cell HB0.out 3).1]; rfl
  have x4 : W0.cell? ⟨X, 4, none⟩ = some (.int .i64 s.next) := by rw [(row_cell HB0.out 4).1]; rfl
  have x5 : W0.cell? ⟨X, 5, none⟩ = some (.int .i64 s.rl) := by rw [(row_cell HB0.out 5).1]; rfl
  have y0 : W0.cell? ⟨X + 1, 0, none⟩ = some (.int .i64 kd) := by rw [(row_cell HB1.out 0).1]; rfl
  have y1 : W0.cell? ⟨X + 1, 1, none⟩ = some (.int .i64 now) := by rw [(row_cell HB1.out 1).1]; rfl
  have y2 : W0.cell? ⟨X + 1, 2, none⟩ = some (.slice Am m cm) := by rw [(row_cell HB1.out 2).1]; rfl
  have u0 : W0.cell? ⟨X + 2, 0, none⟩ = some (.int .i64 0) := by rw [(row_cell HB2.out 0).1]; rfl
  have u1 : W0.cell? ⟨X + 2, 1, none⟩ = some (.int .i64 0) := by rw [(row_cell HB2.out 1).1]; rfl
  have u2 : W0.cell? ⟨X + 2, 2, none⟩ = some (.int .i64 0) := by rw [(row_cell HB2.out 2).1]; rfl
  have u3 : W0.cell? ⟨X + 2, 3, none⟩ = some (.slice none 0 0) := by rw [(row_cell HB2.out 3).1]; rfl
  have u4 : W0.cell? ⟨X + 2, 4, none⟩ = some (.int .i64 0) := by rw [(row_cell HB2.out 4).1]; rfl
  have u5 : W0.cell? ⟨X + 2, 5, none⟩ = some (.int .i64 0) := by rw [(row_cell HB2.out 5).1]; rfl
  have uf0 : W0.frozen? ⟨X + 2, 0, none⟩ = false := (row_cell HB2.out 0).2
  have uf1 : W0.frozen? ⟨X + 2, 1, none⟩ = false := (row_cell HB2.out 1).2
  have uf2 : W0.frozen? ⟨X + 2, 2, none⟩ = false := (row_cell HB2.out 2).2
  have uf3 : W0.frozen? ⟨X + 2, 3, none⟩ = false := (row_cell HB2.out 3).2
  have uf4 : W0.frozen? ⟨X + 2, 4, none⟩ = false := (row_cell HB2.out 4).2
  have uf5 : W0.frozen? ⟨X + 2, 5, none⟩ = false := (row_cell HB2.out 5).2
  rw [hX]
  have hWB : Below w.heap.size w W0 := by rw [hX]; exact B0.out
  have HSV := Lib.hid (h.below hWB)
  have HNP : Hid (∀ b, X ≤ b → ¬ p b) := fun b hb hq => by have := (h.low b hq).2; omega
  have HLO : Hid (lo ≤ X) := by have := h.nil; unfold Hid; omega
  have SQ0 : Hid (Sq W0 (fun b => b < X ∧ PR b) (.slice Ar nr cr) nr (CS S)) := by have := hp.below hWB; rw [hX] at this; exact this
  have MS0 : Hid (Ms W0 (fun _ => True) S LL) := hm.below hWB
  have HPR := Lib.hid hpr
  have HKQ : Hid (Sq W0 PM (.slice Am jm cm) jm (CU K)) := hkq.belowP hWB
  have HJM : Hid (jm ≤ 40 ∧ nr ≤ 32 ∧ nr ≤ cr ∧ LL.length = nr) := ⟨by omega, by have := h.few; omega, hcp, hln⟩
  have RO : Hid (∀ W, Below W0.heap.size W0 W → Calls Try.prog 29 #[.agg #[.int .i64 s.gap, .int .i64 s.words, .int .i64 s.room, .slice Ar nr cr, .int .i64 s.next, .int .i64 s.rl], .slice Am jm cm] W fun e w' => ∃ A' n' c' S', e = .returned (.tuple #[.agg #[.int .i64 s.gap, .int .i64 s.words, .int .i64 s.room, .slice A' n' c', .int .i64 s.next, .int .i64 s.rl], .int .i64 (offE s LL.length jm)]) ∧ Sq w' (fun b => (b < X ∧ PR b) ∨ W.heap.size ≤ b) (.slice A' n' c') n' (CS S') ∧ Ms w' (fun _ => True) S' (offL s LL K) ∧ n' ≤ c' ∧ Below W.heap.size W w') := fun W hb => roffer_any s s.next s.rl Ar nr cr _ PM S LL Am jm cm K W (SQ0.out.belowP hb) (MS0.out.below hb) (by have := HJM.out; omega) (HKQ.out.belowP hb) (by have := HJM.out; omega) HJM.out.2.2.1
  have H0 : Hid (∀ W, Below W0.heap.size W0 W → W.heap[X]? = some (.cells #[.int .i64 s.gap, .int .i64 s.words, .int .i64 s.room, .slice Ar nr cr, .int .i64 s.next, .int .i64 s.rl] 27 (0, 0))) := fun W hb => (hb.block X (by have := S0.out; omega)).trans HB0.out
  have H1 : Hid (∀ W, Below W0.heap.size W0 W → W.cell? ⟨X + 1, 2, none⟩ = some (.slice Am m cm)) := fun W hb => by rw [(row_cell ((hb.block (X + 1) (by have := S0.out; omega)).trans HB1.out) 2).1]; rfl
  clear h hp hpr hm hcp hmq hmc hmn hjm hK hMl hKl hkq hln hWB
  go_enter Try.func12, Try.ntmps12
  go_upto_region 2 with fail
  go_cut [8, 9] (fun s8 s9 wx => SndA W0 X PR s LL K jm s8 s9 wx)
  case first =>
    clear x0 x1 x2 x3 x4 x5 y0 y1 y2 u0 u1 u2 u3 u4 u5 uf0 uf1 uf2 uf3 uf4 uf5
    refine wp_region_held_drew (S := (fun w' => Below W0.heap.size W0 w')) (by kernel_rfl) ?_ (fun hHeld => ?_)
    · exact (Below.refl _ _).drew
    have B_V : Hid (Below W0.heap.size W0 W0.drew) := (Below.refl _ _).drew
    refine takeD (i := 0) (d := some 20) (v := ?_) _ rfl rfl (by kernel_rfl) (by kernel_rfl) (by kernel_rfl) (fun _ _ _ h => h) (by rfl) ?_ (by assumption) ?_
    rotate_left
    · (intro w hSw
       have hx := H0.out w hSw
       have l0 : w.cell? ⟨X, 0, none⟩ = some (.int .i64 s.gap) := by rw [(row_cell hx 0).1]; rfl
       have l1 : w.cell? ⟨X, 1, none⟩ = some (.int .i64 s.words) := by rw [(row_cell hx 1).1]; rfl
       have l2 : w.cell? ⟨X, 2, none⟩ = some (.int .i64 s.room) := by rw [(row_cell hx 2).1]; rfl
       have l3 : w.cell? ⟨X, 3, none⟩ = some (.slice Ar nr cr) := by rw [(row_cell hx 3).1]; rfl
       have l4 : w.cell? ⟨X, 4, none⟩ = some (.int .i64 s.next) := by rw [(row_cell hx 4).1]; rfl
       have l5 : w.cell? ⟨X, 5, none⟩ = some (.int .i64 s.rl) := by rw [(row_cell hx 5).1]; rfl
       clear hx
       (try dsimp only at hSw)
       go_simp) <;> with_reducible rfl
    try simp only [Act.put, List.setIfInBounds_toArray, List.set_cons_zero, List.set_cons_succ]
    refine takeD (i := 1) (d := some 21) (v := ?_) _ rfl rfl (by kernel_rfl) (by kernel_rfl) (by kernel_rfl) (fun _ _ _ h => h) (by rfl) ?_ (by assumption) ?_
    rotate_left
    · (intro w hSw; (try dsimp only at hSw); go_simp) <;> with_reducible rfl
    try simp only [Act.put, List.setIfInBounds_toArray, List.set_cons_zero, List.set_cons_succ]
    refine takeD (i := 2) (d := some 22) (v := ?_) _ rfl rfl (by kernel_rfl) (by kernel_rfl) (by kernel_rfl) (fun _ _ _ h => h) (by rfl) ?_ (by assumption) ?_
    rotate_left
    · (intro w hSw; have l0 := H1.out w hSw; (try dsimp only at hSw); go_simp) <;> with_reducible rfl
    try simp only [Act.put, List.setIfInBounds_toArray, List.set_cons_zero, List.set_cons_succ]
    obtain ⟨V, hV⟩ : ∃ V, W0.drew = V := ⟨_, rfl⟩
    rw [hV] at B_V
    simp only [hV]
    clear hV hHeld
    refine wpAnyH_ready (rs := [3, 8]) (by kernel_rfl) (by simp) ?_
    refine AllReadyH.cons rfl (fun K0 hK => ?_) (AllReadyH.cons rfl (fun K0 hK => ?_) (AllReadyH.nil))
    · try go_simp
      go_at_call 30
      refine (CF.out _).mono ?_
      rintro e wf ⟨rfl, hwf⟩
      have hwf := hwf.symm
      subst hwf
      try go_wp2_with fail
      refine hK.out _ _ B_V.out (fun hHeld => ?_)
      clear hHeld
      clear hK K0
      try simp only [Act.put, List.getElem_toArray, List.getElem_cons_succ, List.getElem_cons_zero, List.setIfInBounds_toArray, List.set_cons_zero, List.set_cons_succ]
      refine wpAnyH_ready (rs := [4, 8]) (by kernel_rfl) (by simp) ?_
      refine AllReadyH.cons rfl (fun K0 hK => ?_) (AllReadyH.cons rfl (fun K0 hK => ?_) (AllReadyH.nil))
      · try go_simp
        go_at_call 29
        refine (RO.out V B_V.out).mono ?_
        rintro e Vo ⟨A', n', c', S', rfl, sq1, ms1, hcp1, b1⟩
        have B_Vo : Hid (Below W0.heap.size W0 Vo) := B_V.out.trans (b1.mono B_V.out.size)
        have SQ1 : Hid (Sq Vo (fun b => ((b < X ∧ PR b) ∨ W0.heap.size ≤ b)) (.slice A' n' c') n' (CS S')) := sq1.imp fun b _ hb => by
          rcases hb with hb | hb
          · exact .inl hb
          · exact .inr (by have := B_V.out.size; omega)
        have MS1 := Lib.hid ms1
        have HCP1 := Lib.hid hcp1
        clear sq1 ms1 hcp1 b1
        try go_wp2_with fail
        refine hK.out _ _ B_Vo.out (fun hHeld => ?_)
        clear hHeld
        clear hK K0
        try simp only [Act.put, List.getElem_toArray, List.getElem_cons_succ, List.getElem_cons_zero, List.setIfInBounds_toArray, List.set_cons_zero, List.set_cons_succ]
        refine takeD (i := 5) (d := some 19) (v := ?_) _ rfl rfl (by kernel_rfl) (by kernel_rfl) (by kernel_rfl) (fun _ _ _ h => h) (by rfl) ?_ B_Vo.out ?_
        rotate_left
        · (intro w hSw; (try dsimp only at hSw); go_simp) <;> with_reducible rfl
        try simp only [Act.put, List.setIfInBounds_toArray, List.set_cons_zero, List.set_cons_succ]
        refine takeD (i := 6) (d := some 25) (v := ?_) _ rfl rfl (by kernel_rfl) (by kernel_rfl) (by kernel_rfl) (fun _ _ _ h => h) (by rfl) ?_ B_Vo.out ?_
        rotate_left
        · (intro w hSw; (try dsimp only at hSw); go_simp) <;> with_reducible rfl
        try simp only [Act.put, List.setIfInBounds_toArray, List.set_cons_zero, List.set_cons_succ]
        refine takeD (i := 7) (d := some 26) (v := ?_) _ rfl rfl (by kernel_rfl) (by kernel_rfl) (by kernel_rfl) (fun _ _ _ h => h) (by rfl) ?_ B_Vo.out ?_
        rotate_left
        · (intro w hSw; (try dsimp only at hSw); go_simp) <;> with_reducible rfl
        try simp only [Act.put, List.setIfInBounds_toArray, List.set_cons_zero, List.set_cons_succ]
        refine wpAnyH_ready (rs := [8]) (by kernel_rfl) (by simp) ?_
        refine AllReadyH.cons rfl (fun K0 hK => ?_) (AllReadyH.nil)
        obtain ⟨Von, h_Von⟩ : ∃ W, Vo.alloc (.cells #[.int .i64 0, .int .i64 0, .int .i64 0, .slice none 0 0, .int .i64 0, .int .i64 0] 27) = W := ⟨_, rfl⟩
        obtain ⟨N8, h_N8⟩ : ∃ vb, Vo.heap.size = vb := ⟨_, rfl⟩
        have b_Von : Below Vo.heap.size Vo Von := by rw [← h_Von]; exact (Below.refl _ _).alloc (Nat.le_refl _) _
        have B_Von : Hid (Below W0.heap.size W0 Von) := B_Vo.out.trans (b_Von.mono B_Vo.out.size)
        have HN8 : Hid (Von.heap[N8]? = some (.cells #[.int .i64 0, .int .i64 0, .int .i64 0, .slice none 0 0, .int .i64 0, .int .i64 0] 27 (0, 0)) ∧ W0.heap.size ≤ N8) := ⟨by rw [← h_Von, ← h_N8]; exact heap_alloc_new _ _, by rw [← h_N8]; exact B_Vo.out.size⟩
        have SQ1 : Hid (Sq Von (fun b => ((b < X ∧ PR b) ∨ W0.heap.size ≤ b) ∧ b ≠ N8) (.slice A' n' c') n' (CS S')) := (SQ1.out.below b_Von).imp fun b _ hb => ⟨hb.2, by omega⟩
        have MS1 : Hid (Ms Von (fun _ => True) S' (offL s LL K)) := MS1.out.below b_Von
        try go_simp
        try rw [h_Von]
        try rw [h_N8]
        refine hK.out _ _ B_Von.out (fun hHeld => ?_)
        clear h_Von h_N8 b_Von hHeld
        clear hK K0
        try simp only [Act.put, List.getElem_toArray, List.getElem_cons_succ, List.getElem_cons_zero, List.setIfInBounds_toArray, List.set_cons_zero, List.set_cons_succ]
        have z0 : Von.cell? ⟨N8, 0, none⟩ = some (.int .i64 0) := by rw [(row_cell HN8.out.1 0).1]; rfl
        have z1 : Von.cell? ⟨N8, 1, none⟩ = some (.int .i64 0) := by rw [(row_cell HN8.out.1 1).1]; rfl
        have z2 : Von.cell? ⟨N8, 2, none⟩ = some (.int .i64 0) := by rw [(row_cell HN8.out.1 2).1]; rfl
        have z3 : Von.cell? ⟨N8, 3, none⟩ = some (.slice none 0 0) := by rw [(row_cell HN8.out.1 3).1]; rfl
        have z4 : Von.cell? ⟨N8, 4, none⟩ = some (.int .i64 0) := by rw [(row_cell HN8.out.1 4).1]; rfl
        have z5 : Von.cell? ⟨N8, 5, none⟩ = some (.int .i64 0) := by rw [(row_cell HN8.out.1 5).1]; rfl
        have zf0 : Von.frozen? ⟨N8, 0, none⟩ = false := (row_cell HN8.out.1 0).2
        have zf1 : Von.frozen? ⟨N8, 1, none⟩ = false := (row_cell HN8.out.1 1).2
        have zf2 : Von.frozen? ⟨N8, 2, none⟩ = false := (row_cell HN8.out.1 2).2
        have zf3 : Von.frozen? ⟨N8, 3, none⟩ = false := (row_cell HN8.out.1 3).2
        have zf4 : Von.frozen? ⟨N8, 4, none⟩ = false := (row_cell HN8.out.1 4).2
        have zf5 : Von.frozen? ⟨N8, 5, none⟩ = false := (row_cell HN8.out.1 5).2
        refine wpAnyH_ready (rs := [9]) (by kernel_rfl) (by simp) ?_
        refine AllReadyH.cons rfl (fun K0 hK => ?_) (AllReadyH.nil)
        obtain ⟨Z, hZ⟩ : ∃ Z, ((((((Von.setCell ⟨N8, 0, none⟩ (.int .i64 s.gap)).setCell ⟨N8, 1, none⟩ (.int .i64 s.words)).setCell ⟨N8, 2, none⟩ (.int .i64 s.room)).setCell ⟨N8, 3, none⟩ (.slice A' n' c')).setCell ⟨N8, 4, none⟩ (.int .i64 s.next)).setCell ⟨N8, 5, none⟩ (.int .i64 s.rl)) = Z := ⟨_, rfl⟩
        have HZB : Hid (Below W0.heap.size W0 Z) := by rw [← hZ]; exact ((((((B_Von.out.setCell (HN8.out.2) _).setCell (HN8.out.2) _).setCell (HN8.out.2) _).setCell (HN8.out.2) _).setCell (HN8.out.2) _).setCell (HN8.out.2) _)
        have HZZ : Hid (Z.heap[N8]? = some (.cells #[.int .i64 s.gap, .int .i64 s.words, .int .i64 s.room, .slice A' n' c', .int .i64 s.next, .int .i64 s.rl] 27 (0, 0)) ∧ W0.heap.size ≤ N8) := ⟨by rw [← hZ]; simpa using (set_at (set_at (set_at (set_at (set_at (set_at HN8.out.1 0 (.int .i64 s.gap)) 1 (.int .i64 s.words)) 2 (.int .i64 s.room)) 3 (.slice A' n' c')) 4 (.int .i64 s.next)) 5 (.int .i64 s.rl)), HN8.out.2⟩
        have hfz : Fo (fun b => b = N8) Von Z := by rw [← hZ]; exact (((((((Fo.refl (fun b => b = N8) Von).setCell (.inl rfl) 0 _).setCell (.inl rfl) 1 _).setCell (.inl rfl) 2 _).setCell (.inl rfl) 3 _).setCell (.inl rfl) 4 _).setCell (.inl rfl) 5 _)
        have hty : Ty Von (fun b => b = N8) := fun b hb _ => by subst hb; exact ⟨_, _, _, HN8.out.1, by decide⟩
        have SQ2 : Hid (Sq Z (fun b => ((b < X ∧ PR b) ∨ W0.heap.size ≤ b) ∧ b ≠ N8) (.slice A' n' c') n' (CS S')) := (SQ1.out.fo hfz fun b hb => hb.2).imp fun b _ hb => hb.2
        have MS2 : Hid (Ms Z (fun _ => True) S' (offL s LL K)) := MS1.out.fot hfz hty
        try go_simp
        try rw [hZ]
        refine hK.out _ _ HZB.out (fun hHeld => ?_)
        clear hHeld hfz hty hZ z0 z1 z2 z3 z4 z5 zf0 zf1 zf2 zf3 zf4 zf5
        clear hK K0
        try simp only [Act.put, List.getElem_toArray, List.getElem_cons_succ, List.getElem_cons_zero, List.setIfInBounds_toArray, List.set_cons_zero, List.set_cons_succ]
        refine takeD (i := 10) (d := some 9) (v := ?_) _ rfl rfl (by kernel_rfl) (by kernel_rfl) (by kernel_rfl) (fun _ _ _ h => h) (by rfl) ?_ HZB.out ?_
        rotate_left
        · (intro w hSw; (try dsimp only at hSw); go_simp) <;> with_reducible rfl
        try simp only [Act.put, List.setIfInBounds_toArray, List.set_cons_zero, List.set_cons_succ]
        refine wpAnyH_done (by kernel_rfl) ?_ _
        clear HN8 B_Von SQ1 MS1
        go_wp2_with fail
        go_meet
        case rel => exact ⟨⟨N8, A', n', c', S', rfl, rfl, HZB.out, HZZ.out.1, HZZ.out.2, SQ2.out, MS2.out, HCP1.out⟩⟩
      · obtain ⟨Vn, h_Vn⟩ : ∃ W, V.alloc (.cells #[.int .i64 0, .int .i64 0, .int .i64 0, .slice none 0 0, .int .i64 0, .int .i64 0] 27) = W := ⟨_, rfl⟩
        obtain ⟨N8, h_N8⟩ : ∃ vb, V.heap.size = vb := ⟨_, rfl⟩
        have b_Vn : Below V.heap.size V Vn := by rw [← h_Vn]; exact (Below.refl _ _).alloc (Nat.le_refl _) _
        have B_Vn : Hid (Below W0.heap.size W0 Vn) := B_V.out.trans (b_Vn.mono B_V.out.size)
        have HN8 : Hid (Vn.heap[N8]? = some (.cells #[.int .i64 0, .int .i64 0, .int .i64 0, .slice none 0 0, .int .i64 0, .int .i64 0] 27 (0, 0)) ∧ W0.heap.size ≤ N8) := ⟨by rw [← h_Vn, ← h_N8]; exact heap_alloc_new _ _, by rw [← h_N8]; exact B_V.out.size⟩
        try go_simp
        try rw [h_Vn]
        try rw [h_N8]
        refine hK.out _ _ B_Vn.out (fun hHeld => ?_)
        clear h_Vn h_N8 b_Vn hHeld
        clear hK K0
        try simp only [Act.put, List.getElem_toArray, List.getElem_cons_succ, List.getElem_cons_zero, List.setIfInBounds_toArray, List.set_cons_zero, List.set_cons_succ]
        refine wpAnyH_ready (rs := [4]) (by kernel_rfl) (by simp) ?_
        refine AllReadyH.cons rfl (fun K0 hK => ?_) (AllReadyH.nil)
        try go_simp
        go_at_call 29
        refine (RO.out Vn B_Vn.out).mono ?_
        rintro e Vno ⟨A', n', c', S', rfl, sq1, ms1, hcp1, b1⟩
        have B_Vno : Hid (Below W0.heap.size W0 Vno) := B_Vn.out.trans (b1.mono B_Vn.out.size)
        have SQ1 : Hid (Sq Vno (fun b => ((b < X ∧ PR b) ∨ W0.heap.size ≤ b) ∧ b ≠ N8) (.slice A' n' c') n' (CS S')) := sq1.imp fun b _ hb => by
          rcases hb with hb | hb
          · exact ⟨.inl hb, fun e => by have := HN8.out.2; have := S0.out; omega⟩
          · exact ⟨.inr (by have := B_Vn.out.size; omega), fun e => by have := (Array.getElem?_eq_some_iff.1 HN8.out.1).1; omega⟩
        have MS1 := Lib.hid ms1
        have HCP1 := Lib.hid hcp1
        have HN8 : Hid (Vno.heap[N8]? = some (.cells #[.int .i64 0, .int .i64 0, .int .i64 0, .slice none 0 0, .int .i64 0, .int .i64 0] 27 (0, 0)) ∧ W0.heap.size ≤ N8) := ⟨(b1.block N8 (Array.getElem?_eq_some_iff.1 HN8.out.1).1).trans HN8.out.1, HN8.out.2⟩
        clear sq1 ms1 hcp1 b1
        try go_wp2_with fail
        refine hK.out _ _ B_Vno.out (fun hHeld => ?_)
        clear hHeld
        clear hK K0
        try simp only [Act.put, List.getElem_toArray, List.getElem_cons_succ, List.getElem_cons_zero, List.setIfInBounds_toArray, List.set_cons_zero, List.set_cons_succ]
        refine takeD (i := 5) (d := some 19) (v := ?_) _ rfl rfl (by kernel_rfl) (by kernel_rfl) (by kernel_rfl) (fun _ _ _ h => h) (by rfl) ?_ B_Vno.out ?_
        rotate_left
        · (intro w hSw; (try dsimp only at hSw); go_simp) <;> with_reducible rfl
        try simp only [Act.put, List.setIfInBounds_toArray, List.set_cons_zero, List.set_cons_succ]
        refine takeD (i := 6) (d := some 25) (v := ?_) _ rfl rfl (by kernel_rfl) (by kernel_rfl) (by kernel_rfl) (fun _ _ _ h => h) (by rfl) ?_ B_Vno.out ?_
        rotate_left
        · (intro w hSw; (try dsimp only at hSw); go_simp) <;> with_reducible rfl
        try simp only [Act.put, List.setIfInBounds_toArray, List.set_cons_zero, List.set_cons_succ]
        refine takeD (i := 7) (d := some 26) (v := ?_) _ rfl rfl (by kernel_rfl) (by kernel_rfl) (by kernel_rfl) (fun _ _ _ h => h) (by rfl) ?_ B_Vno.out ?_
        rotate_left
        · (intro w hSw; (try dsimp only at hSw); go_simp) <;> with_reducible rfl
        try simp only [Act.put, List.setIfInBounds_toArray, List.set_cons_zero, List.set_cons_succ]
        have z0 : Vno.cell? ⟨N8, 0, none⟩ = some (.int .i64 0) := by rw [(row_cell HN8.out.1 0).1]; rfl
        have z1 : Vno.cell? ⟨N8, 1, none⟩ = some (.int .i64 0) := by rw [(row_cell HN8.out.1 1).1]; rfl
        have z2 : Vno.cell? ⟨N8, 2, none⟩ = some (.int .i64 0) := by rw [(row_cell HN8.out.1 2).1]; rfl
        have z3 : Vno.cell? ⟨N8, 3, none⟩ = some (.slice none 0 0) := by rw [(row_cell HN8.out.1 3).1]; rfl
        have z4 : Vno.cell? ⟨N8, 4, none⟩ = some (.int .i64 0) := by rw [(row_cell HN8.out.1 4).1]; rfl
        have z5 : Vno.cell? ⟨N8, 5, none⟩ = some (.int .i64 0) := by rw [(row_cell HN8.out.1 5).1]; rfl
        have zf0 : Vno.frozen? ⟨N8, 0, none⟩ = false := (row_cell HN8.out.1 0).2
        have zf1 : Vno.frozen? ⟨N8, 1, none⟩ = false := (row_cell HN8.out.1 1).2
        have zf2 : Vno.frozen? ⟨N8, 2, none⟩ = false := (row_cell HN8.out.1 2).2
        have zf3 : Vno.frozen? ⟨N8, 3, none⟩ = false := (row_cell HN8.out.1 3).2
        have zf4 : Vno.frozen? ⟨N8, 4, none⟩ = false := (row_cell HN8.out.1 4).2
        have zf5 : Vno.frozen? ⟨N8, 5, none⟩ = false := (row_cell HN8.out.1 5).2
        refine wpAnyH_ready (rs := [9]) (by kernel_rfl) (by simp) ?_
        refine AllReadyH.cons rfl (fun K0 hK => ?_) (AllReadyH.nil)
        obtain ⟨Z, hZ⟩ : ∃ Z, ((((((Vno.setCell ⟨N8, 0, none⟩ (.int .i64 s.gap)).setCell ⟨N8, 1, none⟩ (.int .i64 s.words)).setCell ⟨N8, 2, none⟩ (.int .i64 s.room)).setCell ⟨N8, 3, none⟩ (.slice A' n' c')).setCell ⟨N8, 4, none⟩ (.int .i64 s.next)).setCell ⟨N8, 5, none⟩ (.int .i64 s.rl)) = Z := ⟨_, rfl⟩
        have HZB : Hid (Below W0.heap.size W0 Z) := by rw [← hZ]; exact ((((((B_Vno.out.setCell (HN8.out.2) _).setCell (HN8.out.2) _).setCell (HN8.out.2) _).setCell (HN8.out.2) _).setCell (HN8.out.2) _).setCell (HN8.out.2) _)
        have HZZ : Hid (Z.heap[N8]? = some (.cells #[.int .i64 s.gap, .int .i64 s.words, .int .i64 s.room, .slice A' n' c', .int .i64 s.next, .int .i64 s.rl] 27 (0, 0)) ∧ W0.heap.size ≤ N8) := ⟨by rw [← hZ]; simpa using (set_at (set_at (set_at (set_at (set_at (set_at HN8.out.1 0 (.int .i64 s.gap)) 1 (.int .i64 s.words)) 2 (.int .i64 s.room)) 3 (.slice A' n' c')) 4 (.int .i64 s.next)) 5 (.int .i64 s.rl)), HN8.out.2⟩
        have hfz : Fo (fun b => b = N8) Vno Z := by rw [← hZ]; exact (((((((Fo.refl (fun b => b = N8) Vno).setCell (.inl rfl) 0 _).setCell (.inl rfl) 1 _).setCell (.inl rfl) 2 _).setCell (.inl rfl) 3 _).setCell (.inl rfl) 4 _).setCell (.inl rfl) 5 _)
        have hty : Ty Vno (fun b => b = N8) := fun b hb _ => by subst hb; exact ⟨_, _, _, HN8.out.1, by decide⟩
        have SQ2 : Hid (Sq Z (fun b => ((b < X ∧ PR b) ∨ W0.heap.size ≤ b) ∧ b ≠ N8) (.slice A' n' c') n' (CS S')) := (SQ1.out.fo hfz fun b hb => hb.2).imp fun b _ hb => hb.2
        have MS2 : Hid (Ms Z (fun _ => True) S' (offL s LL K)) := MS1.out.fot hfz hty
        try go_simp
        try rw [hZ]
        refine hK.out _ _ HZB.out (fun hHeld => ?_)
        clear hHeld hfz hty hZ z0 z1 z2 z3 z4 z5 zf0 zf1 zf2 zf3 zf4 zf5
        clear hK K0
        try simp only [Act.put, List.getElem_toArray, List.getElem_cons_succ, List.getElem_cons_zero, List.setIfInBounds_toArray, List.set_cons_zero, List.set_cons_succ]
        refine takeD (i := 10) (d := some 9) (v := ?_) _ rfl rfl (by kernel_rfl) (by kernel_rfl) (by kernel_rfl) (fun _ _ _ h => h) (by rfl) ?_ HZB.out ?_
        rotate_left
        · (intro w hSw; (try dsimp only at hSw); go_simp) <;> with_reducible rfl
        try simp only [Act.put, List.setIfInBounds_toArray, List.set_cons_zero, List.set_cons_succ]
        refine wpAnyH_done (by kernel_rfl) ?_ _
        clear HN8 B_Vno SQ1 MS1
        go_wp2_with fail
        go_meet
        case rel => exact ⟨⟨N8, A', n', c', S', rfl, rfl, HZB.out, HZZ.out.1, HZZ.out.2, SQ2.out, MS2.out, HCP1.out⟩⟩
    · obtain ⟨Vn, h_Vn⟩ : ∃ W, V.alloc (.cells #[.int .i64 0, .int .i64 0, .int .i64 0, .slice none 0 0, .int .i64 0, .int .i64 0] 27) = W := ⟨_, rfl⟩
      obtain ⟨N8, h_N8⟩ : ∃ vb, V.heap.size = vb := ⟨_, rfl⟩
      have b_Vn : Below V.heap.size V Vn := by rw [← h_Vn]; exact (Below.refl _ _).alloc (Nat.le_refl _) _
      have B_Vn : Hid (Below W0.heap.size W0 Vn) := B_V.out.trans (b_Vn.mono B_V.out.size)
      have HN8 : Hid (Vn.heap[N8]? = some (.cells #[.int .i64 0, .int .i64 0, .int .i64 0, .slice none 0 0, .int .i64 0, .int .i64 0] 27 (0, 0)) ∧ W0.heap.size ≤ N8) := ⟨by rw [← h_Vn, ← h_N8]; exact heap_alloc_new _ _, by rw [← h_N8]; exact B_V.out.size⟩
      try go_simp
      try rw [h_Vn]
      try rw [h_N8]
      refine hK.out _ _ B_Vn.out (fun hHeld => ?_)
      clear h_Vn h_N8 b_Vn hHeld
      clear hK K0
      try simp only [Act.put, List.getElem_toArray, List.getElem_cons_succ, List.getElem_cons_zero, List.setIfInBounds_toArray, List.set_cons_zero, List.set_cons_succ]
      refine wpAnyH_ready (rs := [3]) (by kernel_rfl) (by simp) ?_
      refine AllReadyH.cons rfl (fun K0 hK => ?_) (AllReadyH.nil)
      try go_simp
      go_at_call 30
      refine (CF.out _).mono ?_
      rintro e wf ⟨rfl, hwf⟩
      have hwf := hwf.symm
      subst hwf
      try go_wp2_with fail
      refine hK.out _ _ B_Vn.out (fun hHeld => ?_)
      clear hHeld
      clear hK K0
      try simp only [Act.put, List.getElem_toArray, List.getElem_cons_succ, List.getElem_cons_zero, List.setIfInBounds_toArray, List.set_cons_zero, List.set_cons_succ]
      refine wpAnyH_ready (rs := [4]) (by kernel_rfl) (by simp) ?_
      refine AllReadyH.cons rfl (fun K0 hK => ?_) (AllReadyH.nil)
      try go_simp
      go_at_call 29
      refine (RO.out Vn B_Vn.out).mono ?_
      rintro e Vno ⟨A', n', c', S', rfl, sq1, ms1, hcp1, b1⟩
      have B_Vno : Hid (Below W0.heap.size W0 Vno) := B_Vn.out.trans (b1.mono B_Vn.out.size)
      have SQ1 : Hid (Sq Vno (fun b => ((b < X ∧ PR b) ∨ W0.heap.size ≤ b) ∧ b ≠ N8) (.slice A' n' c') n' (CS S')) := sq1.imp fun b _ hb => by
        rcases hb with hb | hb
        · exact ⟨.inl hb, fun e => by have := HN8.out.2; have := S0.out; omega⟩
        · exact ⟨.inr (by have := B_Vn.out.size; omega), fun e => by have := (Array.getElem?_eq_some_iff.1 HN8.out.1).1; omega⟩
      have MS1 := Lib.hid ms1
      have HCP1 := Lib.hid hcp1
      have HN8 : Hid (Vno.heap[N8]? = some (.cells #[.int .i64 0, .int .i64 0, .int .i64 0, .slice none 0 0, .int .i64 0, .int .i64 0] 27 (0, 0)) ∧ W0.heap.size ≤ N8) := ⟨(b1.block N8 (Array.getElem?_eq_some_iff.1 HN8.out.1).1).trans HN8.out.1, HN8.out.2⟩
      clear sq1 ms1 hcp1 b1
      try go_wp2_with fail
      refine hK.out _ _ B_Vno.out (fun hHeld => ?_)
      clear hHeld
      clear hK K0
      try simp only [Act.put, List.getElem_toArray, List.getElem_cons_succ, List.getElem_cons_zero, List.setIfInBounds_toArray, List.set_cons_zero, List.set_cons_succ]
      refine takeD (i := 5) (d := some 19) (v := ?_) _ rfl rfl (by kernel_rfl) (by kernel_rfl) (by kernel_rfl) (fun _ _ _ h => h) (by rfl) ?_ B_Vno.out ?_
      rotate_left
      · (intro w hSw; (try dsimp only at hSw); go_simp) <;> with_reducible rfl
      try simp only [Act.put, List.setIfInBounds_toArray, List.set_cons_zero, List.set_cons_succ]
      refine takeD (i := 6) (d := some 25) (v := ?_) _ rfl rfl (by kernel_rfl) (by kernel_rfl) (by kernel_rfl) (fun _ _ _ h => h) (by rfl) ?_ B_Vno.out ?_
      rotate_left
      · (intro w hSw; (try dsimp only at hSw); go_simp) <;> with_reducible rfl
      try simp only [Act.put, List.setIfInBounds_toArray, List.set_cons_zero, List.set_cons_succ]
      refine takeD (i := 7) (d := some 26) (v := ?_) _ rfl rfl (by kernel_rfl) (by kernel_rfl) (by kernel_rfl) (fun _ _ _ h => h) (by rfl) ?_ B_Vno.out ?_
      rotate_left
      · (intro w hSw; (try dsimp only at hSw); go_simp) <;> with_reducible rfl
      try simp only [Act.put, List.setIfInBounds_toArray, List.set_cons_zero, List.set_cons_succ]
      have z0 : Vno.cell? ⟨N8, 0, none⟩ = some (.int .i64 0) := by rw [(row_cell HN8.out.1 0).1]; rfl
      have z1 : Vno.cell? ⟨N8, 1, none⟩ = some (.int .i64 0) := by rw [(row_cell HN8.out.1 1).1]; rfl
      have z2 : Vno.cell? ⟨N8, 2, none⟩ = some (.int .i64 0) := by rw [(row_cell HN8.out.1 2).1]; rfl
      have z3 : Vno.cell? ⟨N8, 3, none⟩ = some (.slice none 0 0) := by rw [(row_cell HN8.out.1 3).1]; rfl
      have z4 : Vno.cell? ⟨N8, 4, none⟩ = some (.int .i64 0) := by rw [(row_cell HN8.out.1 4).1]; rfl
      have z5 : Vno.cell? ⟨N8, 5, none⟩ = some (.int .i64 0) := by rw [(row_cell HN8.out.1 5).1]; rfl
      have zf0 : Vno.frozen? ⟨N8, 0, none⟩ = false := (row_cell HN8.out.1 0).2
      have zf1 : Vno.frozen? ⟨N8, 1, none⟩ = false := (row_cell HN8.out.1 1).2
      have zf2 : Vno.frozen? ⟨N8, 2, none⟩ = false := (row_cell HN8.out.1 2).2
      have zf3 : Vno.frozen? ⟨N8, 3, none⟩ = false := (row_cell HN8.out.1 3).2
      have zf4 : Vno.frozen? ⟨N8, 4, none⟩ = false := (row_cell HN8.out.1 4).2
      have zf5 : Vno.frozen? ⟨N8, 5, none⟩ = false := (row_cell HN8.out.1 5).2
      refine wpAnyH_ready (rs := [9]) (by kernel_rfl) (by simp) ?_
      refine AllReadyH.cons rfl (fun K0 hK => ?_) (AllReadyH.nil)
      obtain ⟨Z, hZ⟩ : ∃ Z, ((((((Vno.setCell ⟨N8, 0, none⟩ (.int .i64 s.gap)).setCell ⟨N8, 1, none⟩ (.int .i64 s.words)).setCell ⟨N8, 2, none⟩ (.int .i64 s.room)).setCell ⟨N8, 3, none⟩ (.slice A' n' c')).setCell ⟨N8, 4, none⟩ (.int .i64 s.next)).setCell ⟨N8, 5, none⟩ (.int .i64 s.rl)) = Z := ⟨_, rfl⟩
      have HZB : Hid (Below W0.heap.size W0 Z) := by rw [← hZ]; exact ((((((B_Vno.out.setCell (HN8.out.2) _).setCell (HN8.out.2) _).setCell (HN8.out.2) _).setCell (HN8.out.2) _).setCell (HN8.out.2) _).setCell (HN8.out.2) _)
      have HZZ : Hid (Z.heap[N8]? = some (.cells #[.int .i64 s.gap, .int .i64 s.words, .int .i64 s.room, .slice A' n' c', .int .i64 s.next, .int .i64 s.rl] 27 (0, 0)) ∧ W0.heap.size ≤ N8) := ⟨by rw [← hZ]; simpa using (set_at (set_at (set_at (set_at (set_at (set_at HN8.out.1 0 (.int .i64 s.gap)) 1 (.int .i64 s.words)) 2 (.int .i64 s.room)) 3 (.slice A' n' c')) 4 (.int .i64 s.next)) 5 (.int .i64 s.rl)), HN8.out.2⟩
      have hfz : Fo (fun b => b = N8) Vno Z := by rw [← hZ]; exact (((((((Fo.refl (fun b => b = N8) Vno).setCell (.inl rfl) 0 _).setCell (.inl rfl) 1 _).setCell (.inl rfl) 2 _).setCell (.inl rfl) 3 _).setCell (.inl rfl) 4 _).setCell (.inl rfl) 5 _)
      have hty : Ty Vno (fun b => b = N8) := fun b hb _ => by subst hb; exact ⟨_, _, _, HN8.out.1, by decide⟩
      have SQ2 : Hid (Sq Z (fun b => ((b < X ∧ PR b) ∨ W0.heap.size ≤ b) ∧ b ≠ N8) (.slice A' n' c') n' (CS S')) := (SQ1.out.fo hfz fun b hb => hb.2).imp fun b _ hb => hb.2
      have MS2 : Hid (Ms Z (fun _ => True) S' (offL s LL K)) := MS1.out.fot hfz hty
      try go_simp
      try rw [hZ]
      refine hK.out _ _ HZB.out (fun hHeld => ?_)
      clear hHeld hfz hty hZ z0 z1 z2 z3 z4 z5 zf0 zf1 zf2 zf3 zf4 zf5
      clear hK K0
      try simp only [Act.put, List.getElem_toArray, List.getElem_cons_succ, List.getElem_cons_zero, List.setIfInBounds_toArray, List.set_cons_zero, List.set_cons_succ]
      refine takeD (i := 10) (d := some 9) (v := ?_) _ rfl rfl (by kernel_rfl) (by kernel_rfl) (by kernel_rfl) (fun _ _ _ h => h) (by rfl) ?_ HZB.out ?_
      rotate_left
      · (intro w hSw; (try dsimp only at hSw); go_simp) <;> with_reducible rfl
      try simp only [Act.put, List.setIfInBounds_toArray, List.set_cons_zero, List.set_cons_succ]
      refine wpAnyH_done (by kernel_rfl) ?_ _
      clear HN8 B_Vno SQ1 MS1
      go_wp2_with fail
      go_meet
      case rel => exact ⟨⟨N8, A', n', c', S', rfl, rfl, HZB.out, HZZ.out.1, HZZ.out.2, SQ2.out, MS2.out, HCP1.out⟩⟩
  case rest =>
    obtain ⟨⟨N8, A', n', c', S', rfl, rfl, hb1, hn8, hnl, sq1, ms1, hcp1⟩⟩ := hcut
    have B1 := Lib.hid hb1
    have HN8 : Hid (wc.heap[N8]? = some (.cells #[.int .i64 s.gap, .int .i64 s.words, .int .i64 s.room, .slice A' n' c', .int .i64 s.next, .int .i64 s.rl] 27 (0, 0)) ∧ X + 3 ≤ N8) := ⟨hn8, by have := S0.out; omega⟩
    have SQ1 : Hid (Sq wc (fun b => (b < X ∧ PR b) ∨ X + 3 ≤ b) (.slice A' n' c') n' (CS S')) := sq1.imp fun b _ hb => by have := S0.out; rcases hb.1 with h | h; exact .inl h; exact .inr (by omega)
    have MS1 := Lib.hid ms1
    have HCP1 := Lib.hid hcp1
    clear hb1 hn8 hnl sq1 ms1 hcp1 x0 x1 x2 x3 x4 x5 y0 y1 y2 u0 u1 u2 u3 u4 u5 uf0 uf1 uf2 uf3 uf4 uf5 RO H0
    have y2 : wc.cell? ⟨X + 1, 2, none⟩ = some (.slice Am m cm) := H1.out wc B1.out
    have x0 : wc.cell? ⟨N8, 0, none⟩ = some (.int .i64 s.gap) := by rw [(row_cell HN8.out.1 0).1]; rfl
    have x1 : wc.cell? ⟨N8, 1, none⟩ = some (.int .i64 s.words) := by rw [(row_cell HN8.out.1 1).1]; rfl
    have x2 : wc.cell? ⟨N8, 2, none⟩ = some (.int .i64 s.room) := by rw [(row_cell HN8.out.1 2).1]; rfl
    have x3 : wc.cell? ⟨N8, 3, none⟩ = some (.slice A' n' c') := by rw [(row_cell HN8.out.1 3).1]; rfl
    have x4 : wc.cell? ⟨N8, 4, none⟩ = some (.int .i64 s.next) := by rw [(row_cell HN8.out.1 4).1]; rfl
    have x5 : wc.cell? ⟨N8, 5, none⟩ = some (.int .i64 s.rl) := by rw [(row_cell HN8.out.1 5).1]; rfl
    go_wp2_with fail
    refine wp_region_held_drew (S := (fun w' => w'.cell? ⟨X + 1, 2, none⟩ = some (.slice Am m cm) ∧ w'.cell? ⟨N8, 0, none⟩ = some (.int .i64 s.gap) ∧ w'.cell? ⟨N8, 1, none⟩ = some (.int .i64 s.words) ∧ w'.cell? ⟨N8, 2, none⟩ = some (.int .i64 s.room) ∧ w'.cell? ⟨N8, 3, none⟩ = some (.slice A' n' c') ∧ w'.cell? ⟨N8, 4, none⟩ = some (.int .i64 s.next) ∧ w'.cell? ⟨N8, 5, none⟩ = some (.int .i64 s.rl))) (by kernel_rfl) ?_ (fun hHeld => ?_)
    · exact ⟨y2, x0, x1, x2, x3, x4, x5⟩
    refine takeD (i := 0) (d := some 27) (v := ?_) _ rfl rfl (by kernel_rfl) (by kernel_rfl) (by kernel_rfl) (fun _ _ _ h => h) (by rfl) ?_ (by assumption) ?_
    rotate_left
    · (intro w hSw; (try dsimp only at hSw); go_simp) <;> with_reducible rfl
    try simp only [Act.put, List.setIfInBounds_toArray, List.set_cons_zero, List.set_cons_succ]
    refine takeD (i := 1) (d := some 28) (v := ?_) _ rfl rfl (by kernel_rfl) (by kernel_rfl) (by kernel_rfl) (fun _ _ _ h => h) (by rfl) ?_ (by assumption) ?_
    rotate_left
    · (intro w hSw; (try dsimp only at hSw); go_simp) <;> with_reducible rfl
    try simp only [Act.put, List.setIfInBounds_toArray, List.set_cons_zero, List.set_cons_succ]
    refine takeD (i := 2) (d := some 29) (v := ?_) _ rfl rfl (by kernel_rfl) (by kernel_rfl) (by kernel_rfl) (fun _ _ _ h => h) (by rfl) ?_ (by assumption) ?_
    rotate_left
    · (intro w hSw; (try dsimp only at hSw); go_simp) <;> with_reducible rfl
    try simp only [Act.put, List.setIfInBounds_toArray, List.set_cons_zero, List.set_cons_succ]
    refine takeD (i := 3) (d := some 30) (v := ?_) _ rfl rfl (by kernel_rfl) (by kernel_rfl) (by kernel_rfl) (fun _ _ _ h => h) (by rfl) ?_ (by assumption) ?_
    rotate_left
    · (intro w hSw; (try dsimp only at hSw); go_simp) <;> with_reducible rfl
    try simp only [Act.put, List.setIfInBounds_toArray, List.set_cons_zero, List.set_cons_succ]
    refine takeD (i := 6) (d := some 33) (v := ?_) _ rfl rfl (by kernel_rfl) (by kernel_rfl) (by kernel_rfl) (fun _ _ _ h => h) (by rfl) ?_ (by assumption) ?_
    rotate_left
    · (intro w hSw; (try dsimp only at hSw); go_simp) <;> with_reducible rfl
    try simp only [Act.put, List.setIfInBounds_toArray, List.set_cons_zero, List.set_cons_succ]
    obtain ⟨V, hV⟩ : ∃ V, wc.drew = V := ⟨_, rfl⟩
    have BV : Hid (Below wc.heap.size wc V) := by rw [← hV]; exact (Below.refl _ _).drew
    rw [hV] at hHeld
    simp only [hV]
    clear hV x0 x1 x2 x3 x4 x5 y2
    have BWV : Hid (Below W0.heap.size W0 V) := B1.out.trans (BV.out.mono B1.out.size)
    have HSVV : Hid (SV lo V p (fun _ => True) g s LL) := HSV.out.below BWV.out
    have HKV : Hid (Sq V PM (.slice Am jm cm) jm (CU K)) := HKQ.out.belowP BWV.out
    have SQV : Hid (Sq V (fun b => b < wc.heap.size ∧ ((b < X ∧ PR b) ∨ X + 3 ≤ b)) (.slice A' n' c') n' (CS S')) := SQ1.out.below BV.out
    have MSV := Lib.hid (MS1.out.below BV.out)
    have HSZ : Hid (X + 3 ≤ wc.heap.size ∧ wc.heap.size ≤ V.heap.size ∧ N8 < wc.heap.size) := ⟨by have := S0.out; have := B1.out.size; omega, BV.out.size, (Array.getElem?_eq_some_iff.1 HN8.out.1).1⟩
    have HU : Hid (V.heap[X + 2]? = some (.cells #[.int .i64 0, .int .i64 0, .int .i64 0, .slice none 0 0, .int .i64 0, .int .i64 0] 27 (0, 0))) := (BWV.out.block _ (by have := S0.out; omega)).trans HB2.out
    refine wpAnyH_ready (rs := [4]) (by kernel_rfl) (by simp) ?_
    refine AllReadyH.cons rfl (fun K0 hK => ?_) (AllReadyH.nil)
    try go_simp
    go_at_call 30
    refine (CF.out _).mono ?_
    rintro e wf ⟨rfl, hwf⟩
    have hwf := hwf.symm
    subst hwf
    try go_wp2_with fail
    refine hK.out _ _ hHeld (fun hHeld => ?_)
    clear hK K0
    try simp only [Act.put, List.getElem_toArray, List.getElem_cons_succ, List.getElem_cons_zero, List.setIfInBounds_toArray, List.set_cons_zero, List.set_cons_succ]
    refine wpAnyH_ready (rs := [5]) (by kernel_rfl) (by simp) ?_
    refine AllReadyH.cons rfl (fun K0 hK => ?_) (AllReadyH.nil)
    try go_simp
    go_at_call 14
    refine (offer_any lo p (fun _ => True) g s LL PM Am jm cm K V HSVV.out HKV.out (fun _ _ => trivial)).mono ?_
    rintro e w5 ⟨q, rfl, q5, n5⟩
    have HQ5 := Lib.hid q5
    have HN5 := Lib.hid n5
    have HU5 : Hid (w5.heap[X + 2]? = some (.cells #[.int .i64 0, .int .i64 0, .int .i64 0, .slice none 0 0, .int .i64 0, .int .i64 0] 27 (0, 0))) := (n5.fo.block _ (Array.getElem?_eq_some_iff.1 HU.out).1 (HNP.out _ (by omega))).trans HU.out
    try go_wp2_with fail
    refine hK.out _ _ ⟨(n5.fo.cell (HNP.out (X + 1) (by omega)) hHeld.1), (n5.fo.cell (HNP.out N8 (by have := HN8.out.2; omega)) hHeld.2.1), (n5.fo.cell (HNP.out N8 (by have := HN8.out.2; omega)) hHeld.2.2.1), (n5.fo.cell (HNP.out N8 (by have := HN8.out.2; omega)) hHeld.2.2.2.1), (n5.fo.cell (HNP.out N8 (by have := HN8.out.2; omega)) hHeld.2.2.2.2.1), (n5.fo.cell (HNP.out N8 (by have := HN8.out.2; omega)) hHeld.2.2.2.2.2.1), (n5.fo.cell (HNP.out N8 (by have := HN8.out.2; omega)) hHeld.2.2.2.2.2.2)⟩ (fun hHeld => ?_)
    clear q5 n5
    clear hK K0
    try simp only [Act.put, List.getElem_toArray, List.getElem_cons_succ, List.getElem_cons_zero, List.setIfInBounds_toArray, List.set_cons_zero, List.set_cons_succ]
    have hee : (offE s LL.length jm == offE s LL.length jm) = true := by simp
    refine takeD (i := 7) (d := some 34) (v := ?_) _ rfl rfl (by kernel_rfl) (by kernel_rfl) (by kernel_rfl) (fun _ _ _ h => h) (by rfl) ?_ (by assumption) ?_
    rotate_left
    · (intro w hSw; (try dsimp only at hSw); go_simp) <;> with_reducible rfl
    try simp only [Act.put, List.setIfInBounds_toArray, List.set_cons_zero, List.set_cons_succ]
    refine takeD (i := 8) (d := some 35) (v := ?_) _ rfl rfl (by kernel_rfl) (by kernel_rfl) (by kernel_rfl) (fun _ _ _ h => h) (by rfl) ?_ (by assumption) ?_
    rotate_left
    · (intro w hSw; (try dsimp only at hSw); go_simp) <;> with_reducible rfl
    try simp only [Act.put, List.setIfInBounds_toArray, List.set_cons_zero, List.set_cons_succ]
    refine takeD (i := 9) (d := some 36) (v := ?_) _ rfl rfl (by kernel_rfl) (by kernel_rfl) (by kernel_rfl) (fun _ _ _ h => h) (by rfl) ?_ (by assumption) ?_
    rotate_left
    · (intro w hSw; (try dsimp only at hSw); go_simp) <;> with_reducible rfl
    try simp only [Act.put, List.setIfInBounds_toArray, List.set_cons_zero, List.set_cons_succ]
    refine takeD (i := 11) (d := some 38) (v := ?_) _ rfl rfl (by kernel_rfl) (by kernel_rfl) (by kernel_rfl) (fun _ _ _ h => h) (by rfl) ?_ (by assumption) ?_
    rotate_left
    · (intro w hSw; (try dsimp only at hSw); go_simp) <;> with_reducible rfl
    try simp only [Act.put, List.setIfInBounds_toArray, List.set_cons_zero, List.set_cons_succ]
    refine takeD (i := 12) (d := some 39) (v := ?_) _ rfl rfl (by kernel_rfl) (by kernel_rfl) (by kernel_rfl) (fun _ _ _ h => h) (by rfl) ?_ (by assumption) ?_
    rotate_left
    · (intro w hSw; (try dsimp only at hSw); go_simp) <;> with_reducible rfl
    try simp only [Act.put, List.setIfInBounds_toArray, List.set_cons_zero, List.set_cons_succ]
    refine takeD (i := 13) (d := some 40) (v := ?_) _ rfl rfl (by kernel_rfl) (by kernel_rfl) (by kernel_rfl) (fun _ _ _ h => h) (by rfl) ?_ (by assumption) ?_
    rotate_left
    · (intro w hSw; (try dsimp only at hSw); go_simp) <;> with_reducible rfl
    try simp only [Act.put, List.setIfInBounds_toArray, List.set_cons_zero, List.set_cons_succ]
    refine wpAnyH_ready (rs := [10]) (by kernel_rfl) (by simp) ?_
    refine AllReadyH.cons rfl (fun K0 hK => ?_) (AllReadyH.nil)
    try go_simp
    go_at_call 16
    refine (waiting_any lo q (fun _ => True) g s _ w5 HQ5.out).mono ?_
    rintro e w6 ⟨rfl, hw6⟩
    have hw6 := hw6.symm
    subst hw6
    have hll : ((offL s LL K).length : Int) = (n' : Int) := by have h1 := SQV.out.len; rw [MSV.out.mr.len2] at h1; omega
    rw [hll]
    try go_wp2_with fail
    refine hK.out _ _ hHeld (fun hHeld => ?_)
    clear hK K0
    try simp only [Act.put, List.getElem_toArray, List.getElem_cons_succ, List.getElem_cons_zero, List.setIfInBounds_toArray, List.set_cons_zero, List.set_cons_succ]
    refine takeD (i := 14) (d := some 41) (v := ?_) _ rfl rfl (by kernel_rfl) (by kernel_rfl) (by kernel_rfl) (fun _ _ _ h => h) (by rfl) ?_ (by assumption) ?_
    rotate_left
    · (intro w hSw; (try dsimp only at hSw); go_simp) <;> with_reducible rfl
    try simp only [Act.put, List.setIfInBounds_toArray, List.set_cons_zero, List.set_cons_succ]
    refine takeD (i := 15) (d := some 42) (v := ?_) _ rfl rfl (by kernel_rfl) (by kernel_rfl) (by kernel_rfl) (fun _ _ _ h => h) (by rfl) ?_ (by assumption) ?_
    rotate_left
    · (intro w hSw; (try dsimp only at hSw); go_simp) <;> with_reducible rfl
    try simp only [Act.put, List.setIfInBounds_toArray, List.set_cons_zero, List.set_cons_succ]
    have u0 : w5.cell? ⟨X + 2, 0, none⟩ = some (.int .i64 0) := by rw [(row_cell HU5.out 0).1]; rfl
    have u1 : w5.cell? ⟨X + 2, 1, none⟩ = some (.int .i64 0) := by rw [(row_cell HU5.out 1).1]; rfl
    have u2 : w5.cell? ⟨X + 2, 2, none⟩ = some (.int .i64 0) := by rw [(row_cell HU5.out 2).1]; rfl
    have u3 : w5.cell? ⟨X + 2, 3, none⟩ = some (.slice none 0 0) := by rw [(row_cell HU5.out 3).1]; rfl
    have u4 : w5.cell? ⟨X + 2, 4, none⟩ = some (.int .i64 0) := by rw [(row_cell HU5.out 4).1]; rfl
    have u5 : w5.cell? ⟨X + 2, 5, none⟩ = some (.int .i64 0) := by rw [(row_cell HU5.out 5).1]; rfl
    have uf0 : w5.frozen? ⟨X + 2, 0, none⟩ = false := (row_cell HU5.out 0).2
    have uf1 : w5.frozen? ⟨X + 2, 1, none⟩ = false := (row_cell HU5.out 1).2
    have uf2 : w5.frozen? ⟨X + 2, 2, none⟩ = false := (row_cell HU5.out 2).2
    have uf3 : w5.frozen? ⟨X + 2, 3, none⟩ = false := (row_cell HU5.out 3).2
    have uf4 : w5.frozen? ⟨X + 2, 4, none⟩ = false := (row_cell HU5.out 4).2
    have uf5 : w5.frozen? ⟨X + 2, 5, none⟩ = false := (row_cell HU5.out 5).2
    have hU6 := set_six HU5.out (.int .i64 s.gap) (.int .i64 s.words) (.int .i64 s.room) (.slice A' n' c') (.int .i64 s.next) (.int .i64 s.rl)
    have HFF : Hid (Fo (fun b => b = X + 2) w5 ((((((w5.setCell ⟨X + 2, 0, none⟩ (.int .i64 s.gap)).setCell ⟨X + 2, 1, none⟩ (.int .i64 s.words)).setCell ⟨X + 2, 2, none⟩ (.int .i64 s.room)).setCell ⟨X + 2, 3, none⟩ (.slice A' n' c')).setCell ⟨X + 2, 4, none⟩ (.int .i64 s.next)).setCell ⟨X + 2, 5, none⟩ (.int .i64 s.rl))) := (((((((Fo.refl (fun b => b = X + 2) w5).setCell (.inl rfl) 0 _).setCell (.inl rfl) 1 _).setCell (.inl rfl) 2 _).setCell (.inl rfl) 3 _).setCell (.inl rfl) 4 _).setCell (.inl rfl) 5 _)
    refine wpAnyH_ready (rs := [16]) (by kernel_rfl) (by simp) ?_
    refine AllReadyH.cons rfl (fun K0 hK => ?_) (AllReadyH.nil)
    try go_simp
    refine hK.out _ _ ⟨(HFF.out.cell (by intro h7; have h8 : X + 1 = X + 2 := h7; have := HN8.out.2; omega) hHeld.1), (HFF.out.cell (by intro h7; have h8 : N8 = X + 2 := h7; have := HN8.out.2; omega) hHeld.2.1), (HFF.out.cell (by intro h7; have h8 : N8 = X + 2 := h7; have := HN8.out.2; omega) hHeld.2.2.1), (HFF.out.cell (by intro h7; have h8 : N8 = X + 2 := h7; have := HN8.out.2; omega) hHeld.2.2.2.1), (HFF.out.cell (by intro h7; have h8 : N8 = X + 2 := h7; have := HN8.out.2; omega) hHeld.2.2.2.2.1), (HFF.out.cell (by intro h7; have h8 : N8 = X + 2 := h7; have := HN8.out.2; omega) hHeld.2.2.2.2.2.1), (HFF.out.cell (by intro h7; have h8 : N8 = X + 2 := h7; have := HN8.out.2; omega) hHeld.2.2.2.2.2.2)⟩ (fun hHeld => ?_)
    clear hK K0
    try simp only [Act.put, List.getElem_toArray, List.getElem_cons_succ, List.getElem_cons_zero, List.setIfInBounds_toArray, List.set_cons_zero, List.set_cons_succ]
    refine takeD (i := 17) (d := some 7) (v := ?_) _ rfl rfl (by kernel_rfl) (by kernel_rfl) (by kernel_rfl) (fun _ _ _ h => h) (by rfl) ?_ (by assumption) ?_
    rotate_left
    · (intro w hSw; (try dsimp only at hSw); go_simp) <;> with_reducible rfl
    try simp only [Act.put, List.setIfInBounds_toArray, List.set_cons_zero, List.set_cons_succ]
    refine wpAnyH_done (by kernel_rfl) ?_ _
    clear hHeld u0 u1 u2 u3 u4 u5 uf0 uf1 uf2 uf3 uf4 uf5
    go_wp2_with fail
    refine bodyPost_ret (results_cell_tmp rfl _ _ (X + 2) _ _ rfl hU6 Try.underlying27 rfl (by kernel_rfl)) rfl ?_
    have hnq : ¬ q (X + 2) := fun hq => by rcases HN5.out.sub _ hq with h1 | h1; exact HNP.out _ (by omega) h1; have := HSZ.out; omega
    have hty : Ty w5 (fun b => b = X + 2) := fun b hb _ => by subst hb; exact ⟨_, _, _, HU5.out, by decide⟩
    have hb0 : Below w.heap.size w V := by rw [hX]; exact B0.out.trans (BWV.out.mono (by have := S0.out; omega))
    refine ⟨q, s, offL s LL K, A', n', c', S', rfl, HQ5.out.fot HFF.out (fun b hb e => hnq (by rw [← e]; exact hb)) hty, ⟨((Fo.of_below hb0).trans HN5.out.fo fun i hi => .inl hi).trans HFF.out fun i hi => .inr (by omega), fun b hb => by rcases HN5.out.sub b hb with h1 | h1; exact .inl h1; exact .inr (by have := HSZ.out; omega)⟩, ?_, ((MSV.out.fot HN5.out.fo HSVV.out.ty).fot HFF.out hty), HCP1.out⟩
    have h1 := (SQV.out.fo HN5.out.fo fun b hb hq => by
      rcases hb.2 with h2 | h2
      · exact HPR.out b h2.2 hq
      · exact HNP.out b (by omega) hq)
    refine ((h1.fo HFF.out fun b hb e => by rcases hb.2.2 with h2 | h2 <;> omega).imp fun b _ hb => ⟨?_, fun hq => ?_⟩)
    · rcases hb.2.2.2 with h2 | h2
      · exact .inl ⟨by omega, h2.2⟩
      · exact .inr (by omega)
    · rcases HN5.out.sub b hq with h3 | h3
      · rcases hb.2.2.2 with h2 | h2
        · exact HPR.out b h2.2 h3
        · exact HNP.out b (by omega) h3
      · have := hb.2.2.1; have := HSZ.out; omega
end Go.Proofs.Ytkbjonblflhkoaa.Ln
