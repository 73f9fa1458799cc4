/-
  The law's send. Each statement bears its own conditions.
-/
import Derived.Test.YtkbjonblflhkoaaLnU
namespace Go.Proofs.Ytkbjonblflhkoaa.Ln
open Go.RowKit Go.Proofs.Ytkbjonblflhkoaa.F Go.Proofs.Ytkbjonblflhkoaa.U Go.Proofs.Ytkbjonblflhkoaa.Q
set_option linter.unusedVariables false
set_option linter.unusedSimpArgs false
set_option maxRecDepth 100000 in
set_option maxHeartbeats 16000000 in
theorem send_odd (lo : Nat) (p PR PM : Nat → Prop) (g : Nat) (s : SS) (LL : List (List Int)) (Ar : Option Addr) (nr cr : Nat) (S : List Sl) (kd now : Int) (Am : Option Addr) (m cm : Nat) (M : List Int) (w : World) (h : SV lo w p (fun _ => True) g s LL) (hp : Sq w PR (.slice Ar nr cr) nr (CS S)) (hpr : ∀ b, PR b → ¬ p b) (hm : Ms w (fun _ => True) S LL) (hcp : nr ≤ cr) (hmq : Sq w PM (.slice Am m cm) m (CU M)) (hmc : m ≤ cm) (hmn : Am = none → cm = 0) (hk : (kd.tmod 2 == 0) = false) (hk2 : ¬ kd.tmod 2 = 0) : Calls Try.prog 12 #[.pointer (some ⟨g, 0, none⟩), .agg #[.int .i64 s.gap, .int .i64 s.words, .int .i64 s.room, .slice Ar nr cr, .int .i64 s.next, .int .i64 s.rl], .agg #[.int .i64 kd, .int .i64 now, .slice Am m cm]] w fun e w' => ∃ q s' LL' A' n' c' S', e = .returned (.tuple #[.agg #[.int .i64 s'.gap, .int .i64 s'.words, .int .i64 s'.room, .slice A' n' c', .int .i64 s'.next, .int .i64 s'.rl], .bool true]) ∧ SV lo w' q (fun _ => True) g s' LL' ∧ Nx p q w w' ∧ Sq w' (fun b => ((b < w.heap.size ∧ PR b) ∨ w.heap.size ≤ b) ∧ ¬ q b) (.slice A' n' c') n' (CS S') ∧ Ms w' (fun _ => True) S' LL' ∧ n' ≤ c' := by
  have hln : LL.length = nr := by have := hp.len; rw [hm.mr.len2] at this; exact this
  obtain ⟨X, hX⟩ : ∃ X, w.heap.size = X := ⟨_, rfl⟩
  obtain ⟨W0, hW0⟩ : ∃ W0, (((w.alloc (.cells #[.int .i64 s.gap, .int .i64 s.words, .int .i64 s.room, .slice Ar nr cr, .int .i64 s.next, .int .i64 s.rl] 27)).alloc (.cells #[.int .i64 kd, .int .i64 now, .slice Am m cm] 35)).alloc (.cells #[.int .i64 0, .int .i64 0, .int .i64 0, .slice none 0 0, .int .i64 0, .int .i64 0] 27)) = W0 := ⟨_, rfl⟩
  have B0 : Hid (Below X w W0) := by rw [← hW0, ← hX]; exact ((((Below.refl _ _).alloc (by first | exact Nat.le_refl _ | (simp; done) | (simp; omega)) _).alloc (by first | exact Nat.le_refl _ | (simp; done) | (simp; omega)) _).alloc (by first | exact Nat.le_refl _ | (simp; done) | (simp; omega)) _)
  have S0 : Hid (W0.heap.size = X + 3) := by unfold Hid; rw [← hW0, ← hX]; simp
  have HB0 : Hid (W0.heap[X]? = some (.cells #[.int .i64 s.gap, .int .i64 s.words, .int .i64 s.room, .slice Ar nr cr, .int .i64 s.next, .int .i64 s.rl] 27 (0, 0))) := by
    have h0 := heap_alloc_new w (.cells #[.int .i64 s.gap, .int .i64 s.words, .int .i64 s.room, .slice Ar nr cr, .int .i64 s.next, .int .i64 s.rl] 27)
    unfold Hid
    rw [← hW0, ← hX]
    have h1 : (w.alloc (.cells #[.int .i64 s.gap, .int .i64 s.words, .int .i64 s.room, .slice Ar nr cr, .int .i64 s.next, .int .i64 s.rl] 27)).heap[w.heap.size]? = some (.cells #[.int .i64 s.gap, .int .i64 s.words, .int .i64 s.room, .slice Ar nr cr, .int .i64 s.next, .int .i64 s.rl] 27 (0, 0)) := by simpa using h0
    have h2 : ((w.alloc (.cells #[.int .i64 s.gap, .int .i64 s.words, .int .i64 s.room, .slice Ar nr cr, .int .i64 s.next, .int .i64 s.rl] 27)).alloc (.cells #[.int .i64 kd, .int .i64 now, .slice Am m cm] 35)).heap[w.heap.size]? = some (.cells #[.int .i64 s.gap, .int .i64 s.words, .int .i64 s.room, .slice Ar nr cr, .int .i64 s.next, .int .i64 s.rl] 27 (0, 0)) := (heap_old _ _ (by first | (simp; done) | (simp; omega))).trans h1
    have h3 : (((w.alloc (.cells #[.int .i64 s.gap, .int .i64 s.words, .int .i64 s.room, .slice Ar nr cr, .int .i64 s.next, .int .i64 s.rl] 27)).alloc (.cells #[.int .i64 kd, .int .i64 now, .slice Am m cm] 35)).alloc (.cells #[.int .i64 0, .int .i64 0, .int .i64 0, .slice none 0 0, .int .i64 0, .int .i64 0] 27)).heap[w.heap.size]? = some (.cells #[.int .i64 s.gap, .int .i64 s.words, .int .i64 s.room, .slice Ar nr cr, .int .i64 s.next, .int .i64 s.rl] 27 (0, 0)) := (heap_old _ _ (by first | (simp; done) | (simp; omega))).trans h2
    exact h3
  have HB1 : Hid (W0.heap[X + 1]? = some (.cells #[.int .i64 kd, .int .i64 now, .slice Am m cm] 35 (0, 0))) := by
    have h0 := heap_alloc_new (w.alloc (.cells #[.int .i64 s.gap, .int .i64 s.words, .int .i64 s.room, .slice Ar nr cr, .int .i64 s.next, .int .i64 s.rl] 27)) (.cells #[.int .i64 kd, .int .i64 now, .slice Am m cm] 35)
    unfold Hid
    rw [← hW0, ← hX]
    have h1 : ((w.alloc (.cells #[.int .i64 s.gap, .int .i64 s.words, .int .i64 s.room, .slice Ar nr cr, .int .i64 s.next, .int .i64 s.rl] 27)).alloc (.cells #[.int .i64 kd, .int .i64 now, .slice Am m cm] 35)).heap[w.heap.size + 1]? = some (.cells #[.int .i64 kd, .int .i64 now, .slice Am m cm] 35 (0, 0)) := by simpa using h0
    have h2 : (((w.alloc (.cells #[.int .i64 s.gap, .int .i64 s.words, .int .i64 s.room, .slice Ar nr cr, .int .i64 s.next, .int .i64 s.rl] 27)).alloc (.cells #[.int .i64 kd, .int .i64 now, .slice Am m cm] 35)).alloc (.cells #[.int .i64 0, .int .i64 0, .int .i64 0, .slice none 0 0, .int .i64 0, .int .i64 0] 27)).heap[w.heap.size + 1]? = some (.cells #[.int .i64 kd, .int .i64 now, .slice Am m cm] 35 (0, 0)) := (heap_old _ _ (by first | (simp; done) | (simp; omega))).trans h1
    exact h2
  have HB2 : Hid (W0.heap[X + 2]? = some (.cells #[.int .i64 0, .int .i64 0, .int .i64 0, .slice none 0 0, .int .i64 0, .int .i64 0] 27 (0, 0))) := by
    have h0 := heap_alloc_new ((w.alloc (.cells #[.int .i64 s.gap, .int .i64 s.words, .int .i64 s.room, .slice Ar nr cr, .int .i64 s.next, .int .i64 s.rl] 27)).alloc (.cells #[.int .i64 kd, .int .i64 now, .slice Am m cm] 35)) (.cells #[.int .i64 0, .int .i64 0, .int .i64 0, .slice none 0 0, .int .i64 0, .int .i64 0] 27)
    unfold Hid
    rw [← hW0, ← hX]
    have h1 : (((w.alloc (.cells #[.int .i64 s.gap, .int .i64 s.words, .int .i64 s.room, .slice Ar nr cr, .int .i64 s.next, .int .i64 s.rl] 27)).alloc (.cells #[.int .i64 kd, .int .i64 now, .slice Am m cm] 35)).alloc (.cells #[.int .i64 0, .int .i64 0, .int .i64 0, .slice none 0 0, .int .i64 0, .int .i64 0] 27)).heap[w.heap.size + 2]? = some (.cells #[.int .i64 0, .int .i64 0, .int .i64 0, .slice none 0 0, .int .i64 0, .int .i64 0] 27 (0, 0)) := by simpa using h0
    exact h1
  have x0 : W0.cell? ⟨X, 0, none⟩ = some (.int .i64 s.gap) := by rw [(row_cell HB0.out 0).1]; rfl
  have x1 : W0.cell? ⟨X, 1, none⟩ = some (.int .i64 s.words) := by rw [(row_cell HB0.out 1).1]; rfl
  have x2 : W0.cell? ⟨X, 2, none⟩ = some (.int .i64 s.room) := by rw [(row_cell HB0.out 2).1]; rfl
  have x3 : W0.cell? ⟨X, 3, none⟩ = some (.slice Ar nr cr) := by rw [(row_cell HB0.out 3).1]; rfl
  have x4 : W0.cell? ⟨X, 4, none⟩ = some (.int .i64 s.next) := by rw [(row_cell HB0.out 4).1]; rfl
  have x5 : W0.cell? ⟨X, 5, none⟩ = some (.int .i64 s.rl) := by rw [(row_cell HB0.out 5).1]; rfl
  have y0 : W0.cell? ⟨X + 1, 0, none⟩ = some (.int .i64 kd) := by rw [(row_cell HB1.out 0).1]; rfl
  have y1 : W0.cell? ⟨X + 1, 1, none⟩ = some (.int .i64 now) := by rw [(row_cell HB1.out 1).1]; rfl
  have y2 : W0.cell? ⟨X + 1, 2, none⟩ = some (.slice Am m cm) := by rw [(row_cell HB1.out 2).1]; rfl
  have u0 : W0.cell? ⟨X + 2, 0, none⟩ = some (.int .i64 0) := by rw [(row_cell HB2.out 0).1]; rfl
  have u1 : W0.cell? ⟨X + 2, 1, none⟩ = some (.int .i64 0) := by rw [(row_cell HB2.out 1).1]; rfl
  have u2 : W0.cell? ⟨X + 2, 2, none⟩ = some (.int .i64 0) := by rw [(row_cell HB2.out 2).1]; rfl
  have u3 : W0.cell? ⟨X + 2, 3, none⟩ = some (.slice none 0 0) := by rw [(row_cell HB2.out 3).1]; rfl
  have u4 : W0.cell? ⟨X + 2, 4, none⟩ = some (.int .i64 0) := by rw [(row_cell HB2.out 4).1]; rfl
  have u5 : W0.cell? ⟨X + 2, 5, none⟩ = some (.int .i64 0) := by rw [(row_cell HB2.out 5).1]; rfl
  have uf0 : W0.frozen? ⟨X + 2, 0, none⟩ = false := (row_cell HB2.out 0).2
  have uf1 : W0.frozen? ⟨X + 2, 1, none⟩ = false := (row_cell HB2.out 1).2
  have uf2 : W0.frozen? ⟨X + 2, 2, none⟩ = false := (row_cell HB2.out 2).2
  have uf3 : W0.frozen? ⟨X + 2, 3, none⟩ = false := (row_cell HB2.out 3).2
  have uf4 : W0.frozen? ⟨X + 2, 4, none⟩ = false := (row_cell HB2.out 4).2
  have uf5 : W0.frozen? ⟨X + 2, 5, none⟩ = false := (row_cell HB2.out 5).2
  rw [hX]
  have hWB : Below w.heap.size w W0 := by rw [hX]; exact B0.out
  have HSV := Lib.hid (h.below hWB)
  have HNP : Hid (∀ b, X ≤ b → ¬ p b) := fun b hb hq => by have := (h.low b hq).2; omega
  have HLO : Hid (lo ≤ X) := by have := h.nil; unfold Hid; omega
  have SQ0 : Hid (Sq W0 (fun b => b < X ∧ PR b) (.slice Ar nr cr) nr (CS S)) := by have := hp.below hWB; rw [hX] at this; exact this
  have MS0 : Hid (Ms W0 (fun _ => True) S LL) := hm.below hWB
  have HPR := Lib.hid hpr
  have HJM : Hid (nr ≤ 32 ∧ nr ≤ cr ∧ LL.length = nr ∧ ∀ L ∈ LL, L.length ≤ 32) := ⟨by have := h.few; omega, hcp, hln, h.few.2⟩
  have RO := Lib.hid (rstep_any s h.ok Ar nr cr _ S LL now W0 SQ0.out MS0.out hcp (by have := HJM.out; omega) (fun L hL => by have := HJM.out.2.2.2 L hL; omega))
  obtain ⟨lw, hlw⟩ : ∃ k, (stW s LL now).length = k := ⟨_, rfl⟩
  have HLW : Hid ((stW s LL now).length = lw ∧ lw ≤ 32) := by
    refine ⟨hlw, ?_⟩
    rw [← hlw]
    unfold stW
    split
    · cases LL with
      | nil => simp
      | cons a l => exact HJM.out.2.2.2 a (List.mem_cons_self ..)
    · simp
  rw [hlw] at RO
  clear h hp hpr hm hcp hmq hmc hmn hln hWB
  go_enter Try.func12, Try.ntmps12
  go_wp2_with fail
  refine RO.out.mono ?_
  rintro e w1 ⟨A1, n1, c1, S1, A2, c2, rfl, sw1, sq1, ms1, hcp1, b1⟩
  have B1 : Hid (Below W0.heap.size W0 w1) := b1
  have HSZ1 : Hid (X + 3 ≤ w1.heap.size) := by have := S0.out; have := b1.size; unfold Hid; omega
  have SQ1 : Hid (Sq w1 (fun b => b < X ∧ PR b) (.slice A1 n1 c1) n1 (CS S1)) := sq1
  have SW1 : Hid (Sq w1 (fun b => W0.heap.size ≤ b) (.slice A2 lw c2) lw (CU (stW s LL now))) := sw1
  have MS1 := Lib.hid ms1
  have HCP1 := Lib.hid hcp1
  clear sq1 ms1 hcp1 b1 sw1 x0 x1 x2 x3 x4 x5 y0 y1 y2 u0 u1 u2 u3 u4 u5 uf0 uf1 uf2 uf3 uf4 uf5
  have HY1 : Hid (w1.heap[X + 1]? = some (.cells #[.int .i64 kd, .int .i64 now, .slice Am m cm] 35 (0, 0)) ∧ w1.heap[X + 2]? = some (.cells #[.int .i64 0, .int .i64 0, .int .i64 0, .slice none 0 0, .int .i64 0, .int .i64 0] 27 (0, 0))) := ⟨(B1.out.block _ (by have := S0.out; omega)).trans HB1.out, (B1.out.block _ (by have := S0.out; omega)).trans HB2.out⟩
  obtain ⟨N10, hN10⟩ : ∃ b, w1.heap.size = b := ⟨_, rfl⟩
  obtain ⟨Wb, hWb⟩ : ∃ W, (w1.alloc (.cells #[.int .i64 0, .int .i64 0, .int .i64 0, .slice none 0 0, .int .i64 0, .int .i64 0] 27)).alloc (.cells #[.int .i64 0, .slice none 0 0] 80) = W := ⟨_, rfl⟩
  have HT : Hid (Wb.heap[N10]? = some (.cells #[.int .i64 0, .int .i64 0, .int .i64 0, .slice none 0 0, .int .i64 0, .int .i64 0] 27 (0, 0)) ∧ Wb.heap[N10 + 1]? = some (.cells #[.int .i64 0, .slice none 0 0] 80 (0, 0))) := by
    rw [← hWb, ← hN10]
    have h2 := heap_alloc_new (w1.alloc (.cells #[.int .i64 0, .int .i64 0, .int .i64 0, .slice none 0 0, .int .i64 0, .int .i64 0] 27)) (.cells #[.int .i64 0, .slice none 0 0] 80)
    exact ⟨(heap_old _ _ (by simp)).trans (heap_alloc_new w1 _), by simpa using h2⟩
  have BB : Hid (Below N10 w1 Wb) := by rw [← hWb, ← hN10]; exact ((Below.refl _ _).alloc (Nat.le_refl _) _).alloc (by simp) _
  obtain ⟨Z, hZ⟩ : ∃ W, ((((((((Wb.setCell ⟨N10, 0, none⟩ (.int .i64 s.gap)).setCell ⟨N10, 1, none⟩ (.int .i64 s.words)).setCell ⟨N10, 2, none⟩ (.int .i64 s.room)).setCell ⟨N10, 3, none⟩ (.slice A1 n1 c1)).setCell ⟨N10, 4, none⟩ (.int .i64 (stS s LL now).next)).setCell ⟨N10, 5, none⟩ (.int .i64 (stS s LL now).rl)).setCell ⟨(N10 + 1), 0, none⟩ (.int .i64 (stN s LL now))).setCell ⟨(N10 + 1), 1, none⟩ (.slice A2 lw c2)) = W := ⟨_, rfl⟩
  have BZ : Hid (Below N10 w1 Z) := by rw [← hZ]; exact (((((((BB.out.setCell (Nat.le_refl _) _).setCell (Nat.le_refl _) _).setCell (Nat.le_refl _) _).setCell (Nat.le_refl _) _).setCell (Nat.le_refl _) _).setCell (Nat.le_refl _) _).setCell (Nat.le_succ _) _).setCell (Nat.le_succ _) _
  have HZ : Hid (Z.heap[N10]? = some (.cells #[.int .i64 s.gap, .int .i64 s.words, .int .i64 s.room, .slice A1 n1 c1, .int .i64 (stS s LL now).next, .int .i64 (stS s LL now).rl] 27 (0, 0)) ∧ Z.heap[N10 + 1]? = some (.cells #[.int .i64 (stN s LL now), .slice A2 lw c2] 80 (0, 0))) := by
    rw [← hZ]
    refine ⟨(set_far 1 _ (show N10 ≠ N10 + 1 by omega)).trans ((set_far 0 _ (show N10 ≠ N10 + 1 by omega)).trans ?_), ?_⟩
    · simpa using (set_at (set_at (set_at (set_at (set_at (set_at HT.out.1 0 (.int .i64 s.gap)) 1 (.int .i64 s.words)) 2 (.int .i64 s.room)) 3 (.slice A1 n1 c1)) 4 (.int .i64 (stS s LL now).next)) 5 (.int .i64 (stS s LL now).rl))
    · have h6 := (set_far 5 (.int .i64 (stS s LL now).rl) (show N10 + 1 ≠ N10 by omega)).trans ((set_far 4 (.int .i64 (stS s LL now).next) (show N10 + 1 ≠ N10 by omega)).trans ((set_far 3 (.slice A1 n1 c1) (show N10 + 1 ≠ N10 by omega)).trans ((set_far 2 (.int .i64 s.room) (show N10 + 1 ≠ N10 by omega)).trans ((set_far 1 (.int .i64 s.words) (show N10 + 1 ≠ N10 by omega)).trans ((set_far 0 (.int .i64 s.gap) (show N10 + 1 ≠ N10 by omega)).trans (HT.out.2))))))
      simpa using set_at (set_at h6 0 (.int .i64 (stN s LL now))) 1 (.slice A2 lw c2)
  have x0 : Wb.cell? ⟨N10, 0, none⟩ = some (.int .i64 0) := by rw [(row_cell HT.out.1 0).1]; rfl
  have x1 : Wb.cell? ⟨N10, 1, none⟩ = some (.int .i64 0) := by rw [(row_cell HT.out.1 1).1]; rfl
  have x2 : Wb.cell? ⟨N10, 2, none⟩ = some (.int .i64 0) := by rw [(row_cell HT.out.1 2).1]; rfl
  have x3 : Wb.cell? ⟨N10, 3, none⟩ = some (.slice none 0 0) := by rw [(row_cell HT.out.1 3).1]; rfl
  have x4 : Wb.cell? ⟨N10, 4, none⟩ = some (.int .i64 0) := by rw [(row_cell HT.out.1 4).1]; rfl
  have x5 : Wb.cell? ⟨N10, 5, none⟩ = some (.int .i64 0) := by rw [(row_cell HT.out.1 5).1]; rfl
  have xf0 : Wb.frozen? ⟨N10, 0, none⟩ = false := (row_cell HT.out.1 0).2
  have xf1 : Wb.frozen? ⟨N10, 1, none⟩ = false := (row_cell HT.out.1 1).2
  have xf2 : Wb.frozen? ⟨N10, 2, none⟩ = false := (row_cell HT.out.1 2).2
  have xf3 : Wb.frozen? ⟨N10, 3, none⟩ = false := (row_cell HT.out.1 3).2
  have xf4 : Wb.frozen? ⟨N10, 4, none⟩ = false := (row_cell HT.out.1 4).2
  have xf5 : Wb.frozen? ⟨N10, 5, none⟩ = false := (row_cell HT.out.1 5).2
  have u0 : Wb.cell? ⟨N10 + 1, 0, none⟩ = some (.int .i64 0) := by rw [(row_cell HT.out.2 0).1]; rfl
  have u1 : Wb.cell? ⟨N10 + 1, 1, none⟩ = some (.slice none 0 0) := by rw [(row_cell HT.out.2 1).1]; rfl
  have uf0 : Wb.frozen? ⟨N10 + 1, 0, none⟩ = false := (row_cell HT.out.2 0).2
  have uf1 : Wb.frozen? ⟨N10 + 1, 1, none⟩ = false := (row_cell HT.out.2 1).2
  have HNN : Hid (w1.heap.size = N10) := hN10
  go_upto_region 5 with fail
  have BZ1 : Hid (Below w1.heap.size w1 Z) := by rw [HNN.out]; exact BZ.out
  have BWZ : Hid (Below W0.heap.size W0 Z) := B1.out.trans (BZ1.out.mono B1.out.size)
  have HSVZ : Hid (SV lo Z p (fun _ => True) g s LL) := HSV.out.below BWZ.out
  have SQZ : Hid (Sq Z (fun b => b < X ∧ PR b) (.slice A1 n1 c1) n1 (CS S1)) := SQ1.out.belowP BZ1.out
  have SWZ : Hid (Sq Z (fun b => X ≤ b) (.slice A2 lw c2) lw (CU (stW s LL now))) := (SW1.out.belowP BZ1.out).imp fun b _ hb => by have := S0.out; omega
  have MSZ := Lib.hid (MS1.out.below BZ1.out)
  have HYZ : Hid (Z.heap[X + 1]? = some (.cells #[.int .i64 kd, .int .i64 now, .slice Am m cm] 35 (0, 0)) ∧ Z.heap[X + 2]? = some (.cells #[.int .i64 0, .int .i64 0, .int .i64 0, .slice none 0 0, .int .i64 0, .int .i64 0] 27 (0, 0))) := ⟨(BZ1.out.block _ (by have := HSZ1.out; omega)).trans HY1.out.1, (BZ1.out.block _ (by have := HSZ1.out; omega)).trans HY1.out.2⟩
  have HN10 : Hid (X + 3 ≤ N10 ∧ N10 + 1 < Z.heap.size) := ⟨by have := HSZ1.out; have := HNN.out; omega, (Array.getElem?_eq_some_iff.1 HZ.out.2).1⟩
  clear hZ hWb hN10 x0 x1 x2 x3 x4 x5 xf0 xf1 xf2 xf3 xf4 xf5 u0 u1 uf0 uf1 HT BB BZ RO
  have y0 : Z.cell? ⟨X + 1, 0, none⟩ = some (.int .i64 kd) := by rw [(row_cell HYZ.out.1 0).1]; rfl
  have y1 : Z.cell? ⟨X + 1, 1, none⟩ = some (.int .i64 now) := by rw [(row_cell HYZ.out.1 1).1]; rfl
  have y2 : Z.cell? ⟨X + 1, 2, none⟩ = some (.slice Am m cm) := by rw [(row_cell HYZ.out.1 2).1]; rfl
  have ST := Lib.hid (step_any lo p (fun _ => True) g s LL now Z HSVZ.out)
  rw [HLW.out.1] at ST
  go_wp2_with fail
  refine ST.out.mono ?_
  rintro e w5 ⟨A3, c3, q, rfl, sw5, q5, n5⟩
  have HQ5 := Lib.hid q5
  have HN5 := Lib.hid n5
  have SW5 : Hid (Sq w5 (fun _ => True) (.slice A3 lw c3) lw (CU (stW s LL now))) := sw5
  clear sw5 q5 n5 y0 y1 y2 ST
  have HYV : Hid (w5.heap[X + 2]? = some (.cells #[.int .i64 0, .int .i64 0, .int .i64 0, .slice none 0 0, .int .i64 0, .int .i64 0] 27 (0, 0)) ∧ w5.heap[N10]? = some (.cells #[.int .i64 s.gap, .int .i64 s.words, .int .i64 s.room, .slice A1 n1 c1, .int .i64 (stS s LL now).next, .int .i64 (stS s LL now).rl] 27 (0, 0)) ∧ w5.heap[N10 + 1]? = some (.cells #[.int .i64 (stN s LL now), .slice A2 lw c2] 80 (0, 0))) :=
    ⟨(HN5.out.fo.block _ (Array.getElem?_eq_some_iff.1 HYZ.out.2).1 (HNP.out _ (by omega))).trans HYZ.out.2, (HN5.out.fo.block _ (Array.getElem?_eq_some_iff.1 HZ.out.1).1 (HNP.out _ (by have := HN10.out; omega))).trans HZ.out.1, (HN5.out.fo.block _ (Array.getElem?_eq_some_iff.1 HZ.out.2).1 (HNP.out _ (by have := HN10.out; omega))).trans HZ.out.2⟩
  have SX5 : Hid (Sq w5 (fun _ => True) (.slice A2 lw c2) lw (CU (stW s LL now))) := (SWZ.out.fo HN5.out.fo fun b hb => HNP.out b hb).imp fun _ _ _ => trivial
  have hnq : Hid (∀ b, X ≤ b → b < Z.heap.size → ¬ q b) := fun b hb hl hq => by rcases HN5.out.sub b hq with h1 | h1; exact HNP.out b hb h1; omega
  have SQ5 : Hid (Sq w5 (fun b => b < X ∧ PR b ∧ ¬ q b) (.slice A1 n1 c1) n1 (CS S1)) := (SQZ.out.fo HN5.out.fo fun b hb => HPR.out b hb.2).imp fun b _ hb => ⟨hb.2.1, hb.2.2, fun hq => by rcases HN5.out.sub b hq with h1 | h1; exact HPR.out b hb.2.2 h1; omega⟩
  have MS5 : Hid (Ms w5 (fun _ => True) S1 (stL s LL now)) := MSZ.out.fot HN5.out.fo HSVZ.out.ty
  have HSZ5 : Hid (Z.heap.size ≤ w5.heap.size) := HN5.out.fo.size
  clear HZ HYZ SWZ SW1 SQ1 MS1 SQ0 MS0 HSV SQZ MSZ
  obtain ⟨N13, hN13⟩ : ∃ b, w5.heap.size = b := ⟨_, rfl⟩
  obtain ⟨Wd, hWd⟩ : ∃ W, w5.alloc (.cells #[.int .i64 0, .slice none 0 0] 44) = W := ⟨_, rfl⟩
  have HTd : Hid (Wd.heap[N13]? = some (.cells #[.int .i64 0, .slice none 0 0] 44 (0, 0))) := by rw [← hWd, ← hN13]; exact heap_alloc_new w5 _
  have BD : Hid (Below N13 w5 Wd) := by rw [← hWd, ← hN13]; exact (Below.refl _ _).alloc (Nat.le_refl _) _
  obtain ⟨Y, hY⟩ : ∃ W, ((Wd.setCell ⟨N13, 0, none⟩ (.int .i64 (stN s LL now))).setCell ⟨N13, 1, none⟩ (.slice A3 lw c3)) = W := ⟨_, rfl⟩
  have BY : Hid (Below N13 w5 Y) := by rw [← hY]; exact (BD.out.setCell (Nat.le_refl _) _).setCell (Nat.le_refl _) _
  have HYY : Hid (Y.heap[N13]? = some (.cells #[.int .i64 (stN s LL now), .slice A3 lw c3] 44 (0, 0))) := by unfold Hid; rw [← hY]; simpa using set_at (set_at HTd.out 0 (.int .i64 (stN s LL now))) 1 (.slice A3 lw c3)
  have x0 : Wd.cell? ⟨N13, 0, none⟩ = some (.int .i64 0) := by rw [(row_cell HTd.out 0).1]; rfl
  have x1 : Wd.cell? ⟨N13, 1, none⟩ = some (.slice none 0 0) := by rw [(row_cell HTd.out 1).1]; rfl
  have xf0 : Wd.frozen? ⟨N13, 0, none⟩ = false := (row_cell HTd.out 0).2
  have xf1 : Wd.frozen? ⟨N13, 1, none⟩ = false := (row_cell HTd.out 1).2
  go_upto_region 6 with fail
  have BY1 : Hid (Below w5.heap.size w5 Y) := by rw [hN13]; exact BY.out
  have HQY := Lib.hid (HQ5.out.below BY1.out)
  have SWY : Hid (Sq Y (fun _ => True) (.slice A3 lw c3) lw (CU (stW s LL now))) := SW5.out.belowP BY1.out
  have SXY : Hid (Sq Y (fun _ => True) (.slice A2 lw c2) lw (CU (stW s LL now))) := SX5.out.belowP BY1.out
  have SQY : Hid (Sq Y (fun b => b < X ∧ PR b ∧ ¬ q b) (.slice A1 n1 c1) n1 (CS S1)) := SQ5.out.belowP BY1.out
  have MSY := Lib.hid (MS5.out.below BY1.out)
  have HVY : Hid (Y.heap[X + 2]? = some (.cells #[.int .i64 0, .int .i64 0, .int .i64 0, .slice none 0 0, .int .i64 0, .int .i64 0] 27 (0, 0)) ∧ Y.heap[N10]? = some (.cells #[.int .i64 s.gap, .int .i64 s.words, .int .i64 s.room, .slice A1 n1 c1, .int .i64 (stS s LL now).next, .int .i64 (stS s LL now).rl] 27 (0, 0)) ∧ Y.heap[N10 + 1]? = some (.cells #[.int .i64 (stN s LL now), .slice A2 lw c2] 80 (0, 0)) ∧ X + 3 ≤ N13 ∧ w5.heap.size = N13) :=
    ⟨(BY1.out.block _ (Array.getElem?_eq_some_iff.1 HYV.out.1).1).trans HYV.out.1, (BY1.out.block _ (Array.getElem?_eq_some_iff.1 HYV.out.2.1).1).trans HYV.out.2.1, (BY1.out.block _ (Array.getElem?_eq_some_iff.1 HYV.out.2.2).1).trans HYV.out.2.2, by have := HSZ5.out; have := HN10.out; omega, hN13⟩
  clear hY hWd hN13 HTd BD BY x0 x1 xf0 xf1 SW5 SX5 SQ5 MS5 HQ5 HYV
  have y0 : Y.cell? ⟨N13, 0, none⟩ = some (.int .i64 (stN s LL now)) := by rw [(row_cell HYY.out 0).1]; rfl
  have y1 : Y.cell? ⟨N13, 1, none⟩ = some (.slice A3 lw c3) := by rw [(row_cell HYY.out 1).1]; rfl
  have x0 : Y.cell? ⟨N10 + 1, 0, none⟩ = some (.int .i64 (stN s LL now)) := by rw [(row_cell HVY.out.2.2.1 0).1]; rfl
  have x1 : Y.cell? ⟨N10 + 1, 1, none⟩ = some (.slice A2 lw c2) := by rw [(row_cell HVY.out.2.2.1 1).1]; rfl
  have v0 : Y.cell? ⟨N10, 0, none⟩ = some (.int .i64 s.gap) := by rw [(row_cell HVY.out.2.1 0).1]; rfl
  have v1 : Y.cell? ⟨N10, 1, none⟩ = some (.int .i64 s.words) := by rw [(row_cell HVY.out.2.1 1).1]; rfl
  have v2 : Y.cell? ⟨N10, 2, none⟩ = some (.int .i64 s.room) := by rw [(row_cell HVY.out.2.1 2).1]; rfl
  have v3 : Y.cell? ⟨N10, 3, none⟩ = some (.slice A1 n1 c1) := by rw [(row_cell HVY.out.2.1 3).1]; rfl
  have v4 : Y.cell? ⟨N10, 4, none⟩ = some (.int .i64 (stS s LL now).next) := by rw [(row_cell HVY.out.2.1 4).1]; rfl
  have v5 : Y.cell? ⟨N10, 5, none⟩ = some (.int .i64 (stS s LL now).rl) := by rw [(row_cell HVY.out.2.1 5).1]; rfl
  have h1 : (stB s LL now == stB s LL now) = true := by simp
  have h2 : (stN s LL now == stN s LL now) = true := by simp
  refine wp_region_held_drew (S := (fun w' => w'.cell? ⟨N13, 0, none⟩ = some (.int .i64 (stN s LL now)) ∧ w'.cell? ⟨N13, 1, none⟩ = some (.slice A3 lw c3) ∧ w'.cell? ⟨N10 + 1, 0, none⟩ = some (.int .i64 (stN s LL now)) ∧ w'.cell? ⟨N10 + 1, 1, none⟩ = some (.slice A2 lw c2) ∧ w'.cell? ⟨N10, 0, none⟩ = some (.int .i64 s.gap) ∧ w'.cell? ⟨N10, 1, none⟩ = some (.int .i64 s.words) ∧ w'.cell? ⟨N10, 2, none⟩ = some (.int .i64 s.room) ∧ w'.cell? ⟨N10, 3, none⟩ = some (.slice A1 n1 c1) ∧ w'.cell? ⟨N10, 4, none⟩ = some (.int .i64 (stS s LL now).next) ∧ w'.cell? ⟨N10, 5, none⟩ = some (.int .i64 (stS s LL now).rl))) (by kernel_rfl) ?_ (fun hHeld => ?_)
  · exact ⟨y0, y1, x0, x1, v0, v1, v2, v3, v4, v5⟩
  refine takeD (i := 0) (d := some 58) (v := ?_) _ rfl rfl (by kernel_rfl) (by kernel_rfl) (by kernel_rfl) (fun _ _ _ h => h) (by rfl) ?_ (by assumption) ?_
  rotate_left
  · (intro w hSw; (try dsimp only at hSw); go_simp) <;> with_reducible rfl
  try simp only [Act.put, List.setIfInBounds_toArray, List.set_cons_zero, List.set_cons_succ]
  refine takeD (i := 1) (d := some 59) (v := ?_) _ rfl rfl (by kernel_rfl) (by kernel_rfl) (by kernel_rfl) (fun _ _ _ h => h) (by rfl) ?_ (by assumption) ?_
  rotate_left
  · (intro w hSw; (try dsimp only at hSw); go_simp) <;> with_reducible rfl
  try simp only [Act.put, List.setIfInBounds_toArray, List.set_cons_zero, List.set_cons_succ]
  refine takeD (i := 2) (d := some 60) (v := ?_) _ rfl rfl (by kernel_rfl) (by kernel_rfl) (by kernel_rfl) (fun _ _ _ h => h) (by rfl) ?_ (by assumption) ?_
  rotate_left
  · (intro w hSw; (try dsimp only at hSw); go_simp) <;> with_reducible rfl
  try simp only [Act.put, List.setIfInBounds_toArray, List.set_cons_zero, List.set_cons_succ]
  refine takeD (i := 3) (d := some 61) (v := ?_) _ rfl rfl (by kernel_rfl) (by kernel_rfl) (by kernel_rfl) (fun _ _ _ h => h) (by rfl) ?_ (by assumption) ?_
  rotate_left
  · (intro w hSw; (try dsimp only at hSw); go_simp) <;> with_reducible rfl
  try simp only [Act.put, List.setIfInBounds_toArray, List.set_cons_zero, List.set_cons_succ]
  refine takeD (i := 4) (d := some 62) (v := ?_) _ rfl rfl (by kernel_rfl) (by kernel_rfl) (by kernel_rfl) (fun _ _ _ h => h) (by rfl) ?_ (by assumption) ?_
  rotate_left
  · (intro w hSw; (try dsimp only at hSw); go_simp) <;> with_reducible rfl
  try simp only [Act.put, List.setIfInBounds_toArray, List.set_cons_zero, List.set_cons_succ]
  refine takeD (i := 5) (d := some 63) (v := ?_) _ rfl rfl (by kernel_rfl) (by kernel_rfl) (by kernel_rfl) (fun _ _ _ h => h) (by rfl) ?_ (by assumption) ?_
  rotate_left
  · (intro w hSw; (try dsimp only at hSw); go_simp) <;> with_reducible rfl
  try simp only [Act.put, List.setIfInBounds_toArray, List.set_cons_zero, List.set_cons_succ]
  refine takeD (i := 6) (d := some 64) (v := ?_) _ rfl rfl (by kernel_rfl) (by kernel_rfl) (by kernel_rfl) (fun _ _ _ h => h) (by rfl) ?_ (by assumption) ?_
  rotate_left
  · (intro w hSw; (try dsimp only at hSw); go_simp) <;> with_reducible rfl
  try simp only [Act.put, List.setIfInBounds_toArray, List.set_cons_zero, List.set_cons_succ]
  refine takeD (i := 7) (d := some 65) (v := ?_) _ rfl rfl (by kernel_rfl) (by kernel_rfl) (by kernel_rfl) (fun _ _ _ h => h) (by rfl) ?_ (by assumption) ?_
  rotate_left
  · (intro w hSw; (try dsimp only at hSw); go_simp) <;> with_reducible rfl
  try simp only [Act.put, List.setIfInBounds_toArray, List.set_cons_zero, List.set_cons_succ]
  refine takeD (i := 8) (d := some 66) (v := ?_) _ rfl rfl (by kernel_rfl) (by kernel_rfl) (by kernel_rfl) (fun _ _ _ h => h) (by rfl) ?_ (by assumption) ?_
  rotate_left
  · (intro w hSw; (try dsimp only at hSw); go_simp) <;> with_reducible rfl
  try simp only [Act.put, List.setIfInBounds_toArray, List.set_cons_zero, List.set_cons_succ]
  refine takeD (i := 9) (d := some 67) (v := ?_) _ rfl rfl (by kernel_rfl) (by kernel_rfl) (by kernel_rfl) (fun _ _ _ h => h) (by rfl) ?_ (by assumption) ?_
  rotate_left
  · (intro w hSw; (try dsimp only at hSw); go_simp) <;> with_reducible rfl
  try simp only [Act.put, List.setIfInBounds_toArray, List.set_cons_zero, List.set_cons_succ]
  refine takeD (i := 10) (d := some 68) (v := ?_) _ rfl rfl (by kernel_rfl) (by kernel_rfl) (by kernel_rfl) (fun _ _ _ h => h) (by rfl) ?_ (by assumption) ?_
  rotate_left
  · (intro w hSw; (try dsimp only at hSw); go_simp) <;> with_reducible rfl
  try simp only [Act.put, List.setIfInBounds_toArray, List.set_cons_zero, List.set_cons_succ]
  refine takeD (i := 11) (d := some 69) (v := ?_) _ rfl rfl (by kernel_rfl) (by kernel_rfl) (by kernel_rfl) (fun _ _ _ h => h) (by rfl) ?_ (by assumption) ?_
  rotate_left
  · (intro w hSw; (try dsimp only at hSw); go_simp) <;> with_reducible rfl
  try simp only [Act.put, List.setIfInBounds_toArray, List.set_cons_zero, List.set_cons_succ]
  refine takeD (i := 12) (d := some 70) (v := ?_) _ rfl rfl (by kernel_rfl) (by kernel_rfl) (by kernel_rfl) (fun _ _ _ h => h) (by rfl) ?_ (by assumption) ?_
  rotate_left
  · (intro w hSw; (try dsimp only at hSw); go_simp) <;> with_reducible rfl
  try simp only [Act.put, List.setIfInBounds_toArray, List.set_cons_zero, List.set_cons_succ]
  refine takeD (i := 13) (d := some 71) (v := ?_) _ rfl rfl (by kernel_rfl) (by kernel_rfl) (by kernel_rfl) (fun _ _ _ h => h) (by rfl) ?_ (by assumption) ?_
  rotate_left
  · (intro w hSw; (try dsimp only at hSw); go_simp) <;> with_reducible rfl
  try simp only [Act.put, List.setIfInBounds_toArray, List.set_cons_zero, List.set_cons_succ]
  refine takeD (i := 14) (d := some 72) (v := ?_) _ rfl rfl (by kernel_rfl) (by kernel_rfl) (by kernel_rfl) (fun _ _ _ h => h) (by rfl) ?_ (by assumption) ?_
  rotate_left
  · (intro w hSw; (try dsimp only at hSw); go_simp) <;> with_reducible rfl
  try simp only [Act.put, List.setIfInBounds_toArray, List.set_cons_zero, List.set_cons_succ]
  refine takeD (i := 15) (d := some 73) (v := ?_) _ rfl rfl (by kernel_rfl) (by kernel_rfl) (by kernel_rfl) (fun _ _ _ h => h) (by rfl) ?_ (by assumption) ?_
  rotate_left
  · (intro w hSw; (try dsimp only at hSw); go_simp) <;> with_reducible rfl
  try simp only [Act.put, List.setIfInBounds_toArray, List.set_cons_zero, List.set_cons_succ]
  obtain ⟨V, hV⟩ : ∃ V, Y.drew = V := ⟨_, rfl⟩
  have BV : Hid (Below Y.heap.size Y V) := by rw [← hV]; exact (Below.refl _ _).drew
  rw [hV] at hHeld
  simp only [hV]
  clear hV y0 y1 x0 x1 v0 v1 v2 v3 v4 v5
  refine wpAnyH_ready (rs := [16]) (by kernel_rfl) (by simp) ?_
  refine AllReadyH.cons rfl (fun K0 hK => ?_) (AllReadyH.nil)
  try go_simp
  go_at_call 21
  refine (rwords_any _ _ _ _ (stW s LL now) (stW s LL now) V (by rw [HLW.out.1]; exact (SWY.out.belowP BV.out).st) (by rw [HLW.out.1]; exact (SXY.out.belowP BV.out).st) (by have := HLW.out; omega)).mono ?_
  rintro e w6 ⟨he6, b6⟩
  simp only [decide_true] at he6
  subst he6
  have B6 : Hid (Below Y.heap.size Y w6) := BV.out.trans (b6.mono BV.out.size)
  try go_wp2_with fail
  refine hK.out _ _ ⟨cell_later b6 (hHeld.1), cell_later b6 (hHeld.2.1), cell_later b6 (hHeld.2.2.1), cell_later b6 (hHeld.2.2.2.1), cell_later b6 (hHeld.2.2.2.2.1), cell_later b6 (hHeld.2.2.2.2.2.1), cell_later b6 (hHeld.2.2.2.2.2.2.1), cell_later b6 (hHeld.2.2.2.2.2.2.2.1), cell_later b6 (hHeld.2.2.2.2.2.2.2.2.1), cell_later b6 (hHeld.2.2.2.2.2.2.2.2.2)⟩ (fun hHeld => ?_)
  clear b6
  clear hK K0
  try simp only [Act.put, List.getElem_toArray, List.getElem_cons_succ, List.getElem_cons_zero, List.setIfInBounds_toArray, List.set_cons_zero, List.set_cons_succ]
  refine takeD (i := 17) (d := some 75) (v := ?_) _ rfl rfl (by kernel_rfl) (by kernel_rfl) (by kernel_rfl) (fun _ _ _ h => h) (by rfl) ?_ (by assumption) ?_
  rotate_left
  · (intro w hSw; (try dsimp only at hSw); go_simp) <;> with_reducible rfl
  try simp only [Act.put, List.setIfInBounds_toArray, List.set_cons_zero, List.set_cons_succ]
  refine takeD (i := 18) (d := some 76) (v := ?_) _ rfl rfl (by kernel_rfl) (by kernel_rfl) (by kernel_rfl) (fun _ _ _ h => h) (by rfl) ?_ (by assumption) ?_
  rotate_left
  · (intro w hSw; (try dsimp only at hSw); go_simp) <;> with_reducible rfl
  try simp only [Act.put, List.setIfInBounds_toArray, List.set_cons_zero, List.set_cons_succ]
  refine takeD (i := 19) (d := some 77) (v := ?_) _ rfl rfl (by kernel_rfl) (by kernel_rfl) (by kernel_rfl) (fun _ _ _ h => h) (by rfl) ?_ (by assumption) ?_
  rotate_left
  · (intro w hSw; (try dsimp only at hSw); go_simp) <;> with_reducible rfl
  try simp only [Act.put, List.setIfInBounds_toArray, List.set_cons_zero, List.set_cons_succ]
  refine takeD (i := 21) (d := some 79) (v := ?_) _ rfl rfl (by kernel_rfl) (by kernel_rfl) (by kernel_rfl) (fun _ _ _ h => h) (by rfl) ?_ (by assumption) ?_
  rotate_left
  · (intro w hSw; (try dsimp only at hSw); go_simp) <;> with_reducible rfl
  try simp only [Act.put, List.setIfInBounds_toArray, List.set_cons_zero, List.set_cons_succ]
  refine takeD (i := 22) (d := some 80) (v := ?_) _ rfl rfl (by kernel_rfl) (by kernel_rfl) (by kernel_rfl) (fun _ _ _ h => h) (by rfl) ?_ (by assumption) ?_
  rotate_left
  · (intro w hSw; (try dsimp only at hSw); go_simp) <;> with_reducible rfl
  try simp only [Act.put, List.setIfInBounds_toArray, List.set_cons_zero, List.set_cons_succ]
  refine takeD (i := 23) (d := some 81) (v := ?_) _ rfl rfl (by kernel_rfl) (by kernel_rfl) (by kernel_rfl) (fun _ _ _ h => h) (by rfl) ?_ (by assumption) ?_
  rotate_left
  · (intro w hSw; (try dsimp only at hSw); go_simp) <;> with_reducible rfl
  try simp only [Act.put, List.setIfInBounds_toArray, List.set_cons_zero, List.set_cons_succ]
  refine wpAnyH_ready (rs := [20]) (by kernel_rfl) (by simp) ?_
  refine AllReadyH.cons rfl (fun K0 hK => ?_) (AllReadyH.nil)
  try go_simp
  go_at_call 16
  have HQ6 := Lib.hid (HQY.out.below B6.out)
  refine (waiting_any lo q (fun _ => True) g _ _ w6 HQ6.out).mono ?_
  rintro e w7 ⟨rfl, hw7⟩
  have hw7 := hw7.symm
  subst hw7
  have hll : ((stL s LL now).length : Int) = (n1 : Int) := by have h1 := SQY.out.len; rw [MSY.out.mr.len2] at h1; omega
  rw [hll]
  try go_wp2_with fail
  refine hK.out _ _ hHeld (fun hHeld => ?_)
  clear hK K0
  try simp only [Act.put, List.getElem_toArray, List.getElem_cons_succ, List.getElem_cons_zero, List.setIfInBounds_toArray, List.set_cons_zero, List.set_cons_succ]
  refine takeD (i := 24) (d := some 82) (v := ?_) _ rfl rfl (by kernel_rfl) (by kernel_rfl) (by kernel_rfl) (fun _ _ _ h => h) (by rfl) ?_ (by assumption) ?_
  rotate_left
  · (intro w hSw; (try dsimp only at hSw); go_simp) <;> with_reducible rfl
  try simp only [Act.put, List.setIfInBounds_toArray, List.set_cons_zero, List.set_cons_succ]
  refine takeD (i := 25) (d := some 83) (v := ?_) _ rfl rfl (by kernel_rfl) (by kernel_rfl) (by kernel_rfl) (fun _ _ _ h => h) (by rfl) ?_ (by assumption) ?_
  rotate_left
  · (intro w hSw; (try dsimp only at hSw); go_simp) <;> with_reducible rfl
  try simp only [Act.put, List.setIfInBounds_toArray, List.set_cons_zero, List.set_cons_succ]
  have HU6 : Hid (w6.heap[X + 2]? = some (.cells #[.int .i64 0, .int .i64 0, .int .i64 0, .slice none 0 0, .int .i64 0, .int .i64 0] 27 (0, 0))) := (B6.out.block _ (Array.getElem?_eq_some_iff.1 HVY.out.1).1).trans HVY.out.1
  have u0 : w6.cell? ⟨X + 2, 0, none⟩ = some (.int .i64 0) := by rw [(row_cell HU6.out 0).1]; rfl
  have u1 : w6.cell? ⟨X + 2, 1, none⟩ = some (.int .i64 0) := by rw [(row_cell HU6.out 1).1]; rfl
  have u2 : w6.cell? ⟨X + 2, 2, none⟩ = some (.int .i64 0) := by rw [(row_cell HU6.out 2).1]; rfl
  have u3 : w6.cell? ⟨X + 2, 3, none⟩ = some (.slice none 0 0) := by rw [(row_cell HU6.out 3).1]; rfl
  have u4 : w6.cell? ⟨X + 2, 4, none⟩ = some (.int .i64 0) := by rw [(row_cell HU6.out 4).1]; rfl
  have u5 : w6.cell? ⟨X + 2, 5, none⟩ = some (.int .i64 0) := by rw [(row_cell HU6.out 5).1]; rfl
  have uf0 : w6.frozen? ⟨X + 2, 0, none⟩ = false := (row_cell HU6.out 0).2
  have uf1 : w6.frozen? ⟨X + 2, 1, none⟩ = false := (row_cell HU6.out 1).2
  have uf2 : w6.frozen? ⟨X + 2, 2, none⟩ = false := (row_cell HU6.out 2).2
  have uf3 : w6.frozen? ⟨X + 2, 3, none⟩ = false := (row_cell HU6.out 3).2
  have uf4 : w6.frozen? ⟨X + 2, 4, none⟩ = false := (row_cell HU6.out 4).2
  have uf5 : w6.frozen? ⟨X + 2, 5, none⟩ = false := (row_cell HU6.out 5).2
  have hU6 := set_six HU6.out (.int .i64 s.gap) (.int .i64 s.words) (.int .i64 s.room) (.slice A1 n1 c1) (.int .i64 (stS s LL now).next) (.int .i64 (stS s LL now).rl)
  have HFF : Hid (Fo (fun b => b = X + 2) w6 ((((((w6.setCell ⟨X + 2, 0, none⟩ (.int .i64 s.gap)).setCell ⟨X + 2, 1, none⟩ (.int .i64 s.words)).setCell ⟨X + 2, 2, none⟩ (.int .i64 s.room)).setCell ⟨X + 2, 3, none⟩ (.slice A1 n1 c1)).setCell ⟨X + 2, 4, none⟩ (.int .i64 (stS s LL now).next)).setCell ⟨X + 2, 5, none⟩ (.int .i64 (stS s LL now).rl))) := (((((((Fo.refl (fun b => b = X + 2) w6).setCell (.inl rfl) 0 _).setCell (.inl rfl) 1 _).setCell (.inl rfl) 2 _).setCell (.inl rfl) 3 _).setCell (.inl rfl) 4 _).setCell (.inl rfl) 5 _)
  refine wpAnyH_ready (rs := [26]) (by kernel_rfl) (by simp) ?_
  refine AllReadyH.cons rfl (fun K0 hK => ?_) (AllReadyH.nil)
  try go_simp
  refine hK.out _ _ ⟨(HFF.out.cell (by intro h7; have h8 : N13 = X + 2 := h7; have := HVY.out.2.2.2; have := HN10.out; omega) (hHeld.1)), (HFF.out.cell (by intro h7; have h8 : N13 = X + 2 := h7; have := HVY.out.2.2.2; have := HN10.out; omega) (hHeld.2.1)), (HFF.out.cell (by intro h7; have h8 : N10 + 1 = X + 2 := h7; have := HVY.out.2.2.2; have := HN10.out; omega) (hHeld.2.2.1)), (HFF.out.cell (by intro h7; have h8 : N10 + 1 = X + 2 := h7; have := HVY.out.2.2.2; have := HN10.out; omega) (hHeld.2.2.2.1)), (HFF.out.cell (by intro h7; have h8 : N10 = X + 2 := h7; have := HVY.out.2.2.2; have := HN10.out; omega) (hHeld.2.2.2.2.1)), (HFF.out.cell (by intro h7; have h8 : N10 = X + 2 := h7; have := HVY.out.2.2.2; have := HN10.out; omega) (hHeld.2.2.2.2.2.1)), (HFF.out.cell (by intro h7; have h8 : N10 = X + 2 := h7; have := HVY.out.2.2.2; have := HN10.out; omega) (hHeld.2.2.2.2.2.2.1)), (HFF.out.cell (by intro h7; have h8 : N10 = X + 2 := h7; have := HVY.out.2.2.2; have := HN10.out; omega) (hHeld.2.2.2.2.2.2.2.1)), (HFF.out.cell (by intro h7; have h8 : N10 = X + 2 := h7; have := HVY.out.2.2.2; have := HN10.out; omega) (hHeld.2.2.2.2.2.2.2.2.1)), (HFF.out.cell (by intro h7; have h8 : N10 = X + 2 := h7; have := HVY.out.2.2.2; have := HN10.out; omega) (hHeld.2.2.2.2.2.2.2.2.2))⟩ (fun hHeld => ?_)
  clear hK K0
  try simp only [Act.put, List.getElem_toArray, List.getElem_cons_succ, List.getElem_cons_zero, List.setIfInBounds_toArray, List.set_cons_zero, List.set_cons_succ]
  refine takeD (i := 27) (d := some 7) (v := ?_) _ rfl rfl (by kernel_rfl) (by kernel_rfl) (by kernel_rfl) (fun _ _ _ h => h) (by rfl) ?_ (by assumption) ?_
  rotate_left
  · (intro w hSw; (try dsimp only at hSw); go_simp) <;> with_reducible rfl
  try simp only [Act.put, List.setIfInBounds_toArray, List.set_cons_zero, List.set_cons_succ]
  refine wpAnyH_done (by kernel_rfl) ?_ _
  clear hHeld u0 u1 u2 u3 u4 u5 uf0 uf1 uf2 uf3 uf4 uf5
  go_wp2_with fail
  refine bodyPost_ret (results_cell_tmp rfl _ _ (X + 2) _ _ rfl hU6 Try.underlying27 rfl (by kernel_rfl)) rfl ?_
  have hty : Ty w6 (fun b => b = X + 2) := fun b hb _ => by subst hb; exact ⟨_, _, _, HU6.out, by decide⟩
  have hb0 : Below w.heap.size w Z := by rw [hX]; exact B0.out.trans (BWZ.out.mono (by have := S0.out; omega))
  have hn2 : ¬ q (X + 2) := hnq.out _ (by omega) (by have := HN10.out; omega)
  have hw56 : Below w5.heap.size w5 w6 := BY1.out.trans (B6.out.mono BY1.out.size)
  have hgg : (stS s LL now).gap = s.gap ∧ (stS s LL now).words = s.words ∧ (stS s LL now).room = s.room := by unfold stS; split <;> exact ⟨rfl, rfl, rfl⟩
  refine ⟨q, stS s LL now, stL s LL now, A1, n1, c1, S1, by (rw [hgg.1, hgg.2.1, hgg.2.2]; rfl), HQ6.out.fot HFF.out (fun b hb e => hn2 (by rw [← e]; exact hb)) hty, ⟨(((Fo.of_below hb0).trans HN5.out.fo fun i hi => .inl hi).trans (Fo.of_below (p := fun _ => False) hw56) fun i hi => hi.elim).trans HFF.out fun i hi => .inr (by omega), fun b hb => by rcases HN5.out.sub b hb with h1 | h1; exact .inl h1; exact .inr (by have := HN10.out; omega)⟩, ?_, (MSY.out.below B6.out).fot HFF.out hty, HCP1.out⟩
  exact (((SQY.out.belowP B6.out).fo HFF.out fun b hb e => by omega).imp fun b _ hb => ⟨.inl ⟨by omega, hb.2.2.1⟩, hb.2.2.2⟩)
end Go.Proofs.Ytkbjonblflhkoaa.Ln
