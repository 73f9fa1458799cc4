/-
  The reference: SameSender. Each statement bears its own conditions.
-/
import Derived.Test.YtkbjonblflhkoaaLnP
namespace Go.Proofs.Ytkbjonblflhkoaa.Ln
open Go.RowKit Go.Proofs.Ytkbjonblflhkoaa.F Go.Proofs.Ytkbjonblflhkoaa.U Go.Proofs.Ytkbjonblflhkoaa.Q
set_option linter.unusedVariables false
set_option linter.unusedSimpArgs false
/-- Are two the same, as the reference has it? -/
def rsB (s s' : SS) (LL LL' : List (List Int)) : Bool := s.gap == s'.gap && (s.words == s'.words && (s.room == s'.room && (s.next == s'.next && (s.rl == s'.rl && decide (LL = LL')))))
theorem rsB_eq {s s' : SS} (h : s.ok) (h' : s'.ok) (LL LL' : List (List Int)) : rsB s s' LL LL' = (s.eqB s' && decide (LL = LL')) := by
  have e : (s.rl == s'.rl) = (s.sent == s'.sent && s.last == s'.last) := by
    unfold SS.rl
    have h1 := h.l; have h2 := h'.l; have h3 := h.z; have h4 := h'.z
    cases hs : s.sent with
    | true =>
      cases hs' : s'.sent with
      | true => simp
      | false =>
        have : ¬ s.last = -1 := by omega
        simp [this]
    | false =>
      cases hs' : s'.sent with
      | true =>
        have : ¬ (-1 : Int) = s'.last := by omega
        simp [this]
      | false => simp [h3 hs, h4 hs']
  unfold rsB SS.eqB
  rw [e]
  simp only [Bool.and_assoc]
structure RsR (m : Nat) (LL LL' : List (List Int)) (W0 : World) (iv : Value) (wr : World) : Prop where
  ex : ∃ j : Nat, j ≤ m ∧ iv = .int .i64 (j : Int) ∧ (∀ i, i < j → LL[i]? = LL'[i]?) ∧ Below W0.heap.size W0 wr
set_option maxRecDepth 100000 in
set_option maxHeartbeats 16000000 in
theorem rsame_any (s s' : SS) (P P' R R' : Nat → Prop) (A A' : Option Addr) (n n' c c' : Nat) (S S' : List Sl) (LL LL' : List (List Int)) (w : World) (hv : Sq w P (.slice A n c) n (CS S)) (hm : Mr w R S LL) (hv' : Sq w P' (.slice A' n' c') n' (CS S')) (hm' : Mr w R' S' LL') (hml : n ≤ 1000) (hl : ∀ L ∈ LL, L.length ≤ 1000) :
    Calls Try.prog 28 #[.agg #[.int .i64 s.gap, .int .i64 s.words, .int .i64 s.room, .slice A n c, .int .i64 s.next, .int .i64 s.rl], .agg #[.int .i64 s'.gap, .int .i64 s'.words, .int .i64 s'.room, .slice A' n' c', .int .i64 s'.next, .int .i64 s'.rl]] w fun e w' => e = .returned (.bool (rsB s s' LL LL')) ∧ Below w.heap.size w w' := by
  obtain ⟨X, hX⟩ : ∃ X, w.heap.size = X := ⟨_, rfl⟩
  obtain ⟨W0, hW0⟩ : ∃ W0, ((w.alloc (.cells #[.int .i64 s.gap, .int .i64 s.words, .int .i64 s.room, .slice A n c, .int .i64 s.next, .int .i64 s.rl] 27)).alloc (.cells #[.int .i64 s'.gap, .int .i64 s'.words, .int .i64 s'.room, .slice A' n' c', .int .i64 s'.next, .int .i64 s'.rl] 27)) = W0 := ⟨_, rfl⟩
  have B0 : Hid (Below X w W0) := by rw [← hW0, ← hX]; exact (((Below.refl _ _).alloc (by first | exact Nat.le_refl _ | (simp; done) | (simp; omega)) _).alloc (by first | exact Nat.le_refl _ | (simp; done) | (simp; omega)) _)
  have S0 : Hid (W0.heap.size = X + 2) := by unfold Hid; rw [← hW0, ← hX]; simp
  have HB0 : Hid (W0.heap[X]? = some (.cells #[.int .i64 s.gap, .int .i64 s.words, .int .i64 s.room, .slice A n c, .int .i64 s.next, .int .i64 s.rl] 27 (0, 0))) := by
    have h0 := heap_alloc_new w (.cells #[.int .i64 s.gap, .int .i64 s.words, .int .i64 s.room, .slice A n c, .int .i64 s.next, .int .i64 s.rl] 27)
    unfold Hid
    rw [← hW0, ← hX]
    have h1 : (w.alloc (.cells #[.int .i64 s.gap, .int .i64 s.words, .int .i64 s.room, .slice A n c, .int .i64 s.next, .int .i64 s.rl] 27)).heap[w.heap.size]? = some (.cells #[.int .i64 s.gap, .int .i64 s.words, .int .i64 s.room, .slice A n c, .int .i64 s.next, .int .i64 s.rl] 27 (0, 0)) := by simpa using h0
    have h2 : ((w.alloc (.cells #[.int .i64 s.gap, .int .i64 s.words, .int .i64 s.room, .slice A n c, .int .i64 s.next, .int .i64 s.rl] 27)).alloc (.cells #[.int .i64 s'.gap, .int .i64 s'.words, .int .i64 s'.room, .slice A' n' c', .int .i64 s'.next, .int .i64 s'.rl] 27)).heap[w.heap.size]? = some (.cells #[.int .i64 s.gap, .int .i64 s.words, .int .i64 s.room, .slice A n c, .int .i64 s.next, .int .i64 s.rl] 27 (0, 0)) := (heap_old _ _ (by first | (simp; done) | (simp; omega))).trans h1
    exact h2
  have HB1 : Hid (W0.heap[X + 1]? = some (.cells #[.int .i64 s'.gap, .int .i64 s'.words, .int .i64 s'.room, .slice A' n' c', .int .i64 s'.next, .int .i64 s'.rl] 27 (0, 0))) := by
    have h0 := heap_alloc_new (w.alloc (.cells #[.int .i64 s.gap, .int .i64 s.words, .int .i64 s.room, .slice A n c, .int .i64 s.next, .int .i64 s.rl] 27)) (.cells #[.int .i64 s'.gap, .int .i64 s'.words, .int .i64 s'.room, .slice A' n' c', .int .i64 s'.next, .int .i64 s'.rl] 27)
    unfold Hid
    rw [← hW0, ← hX]
    have h1 : ((w.alloc (.cells #[.int .i64 s.gap, .int .i64 s.words, .int .i64 s.room, .slice A n c, .int .i64 s.next, .int .i64 s.rl] 27)).alloc (.cells #[.int .i64 s'.gap, .int .i64 s'.words, .int .i64 s'.room, .slice A' n' c', .int .i64 s'.next, .int .i64 s'.rl] 27)).heap[w.heap.size + 1]? = some (.cells #[.int .i64 s'.gap, .int .i64 s'.words, .int .i64 s'.room, .slice A' n' c', .int .i64 s'.next, .int .i64 s'.rl] 27 (0, 0)) := by simpa using h0
    exact h1
  have x0 : W0.cell? ⟨X, 0, none⟩ = some (.int .i64 s.gap) := by rw [(row_cell HB0.out 0).1]; rfl
  have x1 : W0.cell? ⟨X, 1, none⟩ = some (.int .i64 s.words) := by rw [(row_cell HB0.out 1).1]; rfl
  have x2 : W0.cell? ⟨X, 2, none⟩ = some (.int .i64 s.room) := by rw [(row_cell HB0.out 2).1]; rfl
  have x3 : W0.cell? ⟨X, 3, none⟩ = some (.slice A n c) := by rw [(row_cell HB0.out 3).1]; rfl
  have x4 : W0.cell? ⟨X, 4, none⟩ = some (.int .i64 s.next) := by rw [(row_cell HB0.out 4).1]; rfl
  have x5 : W0.cell? ⟨X, 5, none⟩ = some (.int .i64 s.rl) := by rw [(row_cell HB0.out 5).1]; rfl
  have y0 : W0.cell? ⟨X + 1, 0, none⟩ = some (.int .i64 s'.gap) := by rw [(row_cell HB1.out 0).1]; rfl
  have y1 : W0.cell? ⟨X + 1, 1, none⟩ = some (.int .i64 s'.words) := by rw [(row_cell HB1.out 1).1]; rfl
  have y2 : W0.cell? ⟨X + 1, 2, none⟩ = some (.int .i64 s'.room) := by rw [(row_cell HB1.out 2).1]; rfl
  have y3 : W0.cell? ⟨X + 1, 3, none⟩ = some (.slice A' n' c') := by rw [(row_cell HB1.out 3).1]; rfl
  have y4 : W0.cell? ⟨X + 1, 4, none⟩ = some (.int .i64 s'.next) := by rw [(row_cell HB1.out 4).1]; rfl
  have y5 : W0.cell? ⟨X + 1, 5, none⟩ = some (.int .i64 s'.rl) := by rw [(row_cell HB1.out 5).1]; rfl
  rw [hX]
  have hWB : Below w.heap.size w W0 := by rw [hX]; exact B0.out
  have hmm : LL.length = n := by have := hv.len; rw [hm.len2] at this; exact this
  have hmm' : LL'.length = n' := by have := hv'.len; rw [hm'.len2] at this; exact this
  have HV := Lib.hid (hv.belowP hWB)
  have HM := Lib.hid (hm.below hWB)
  have HV' := Lib.hid (hv'.belowP hWB)
  have HM' := Lib.hid (hm'.below hWB)
  have HL : Hid (LL.length = n ∧ LL'.length = n' ∧ n ≤ 1000 ∧ ∀ L ∈ LL, L.length ≤ 1000) := ⟨hmm, hmm', hml, hl⟩
  clear hv hm hv' hm' hmm hmm' hml hl hWB
  by_cases k0 : s.gap = s'.gap
  rotate_left
  · have b0 : (s.gap == s'.gap) = false := by simpa using k0
    have c0 : (s.gap != s'.gap) = true := by simpa using k0
    have HF : Hid (rsB s s' LL LL' = false) := by unfold Hid rsB; simp [b0]
    clear k0
    go_enter Try.func28, Try.ntmps28
    go_wp2_with fail
    go_ret
    exact ⟨by rw [HF.out]; rfl, B0.out⟩
  have b0 : (s.gap == s'.gap) = true := by simpa using k0
  have c0 : (s.gap != s'.gap) = false := by simpa using k0
  by_cases k1 : s.words = s'.words
  rotate_left
  · have b1 : (s.words == s'.words) = false := by simpa using k1
    have c1 : (s.words != s'.words) = true := by simpa using k1
    have HF : Hid (rsB s s' LL LL' = false) := by unfold Hid rsB; simp [b0, b1]
    clear k0 k1
    go_enter Try.func28, Try.ntmps28
    go_wp2_with fail
    go_ret
    exact ⟨by rw [HF.out]; rfl, B0.out⟩
  have b1 : (s.words == s'.words) = true := by simpa using k1
  have c1 : (s.words != s'.words) = false := by simpa using k1
  by_cases k2 : s.room = s'.room
  rotate_left
  · have b2 : (s.room == s'.room) = false := by simpa using k2
    have c2 : (s.room != s'.room) = true := by simpa using k2
    have HF : Hid (rsB s s' LL LL' = false) := by unfold Hid rsB; simp [b0, b1, b2]
    clear k0 k1 k2
    go_enter Try.func28, Try.ntmps28
    go_wp2_with fail
    go_ret
    exact ⟨by rw [HF.out]; rfl, B0.out⟩
  have b2 : (s.room == s'.room) = true := by simpa using k2
  have c2 : (s.room != s'.room) = false := by simpa using k2
  by_cases k3 : s.next = s'.next
  rotate_left
  · have b3 : (s.next == s'.next) = false := by simpa using k3
    have c3 : (s.next != s'.next) = true := by simpa using k3
    have HF : Hid (rsB s s' LL LL' = false) := by unfold Hid rsB; simp [b0, b1, b2, b3]
    clear k0 k1 k2 k3
    go_enter Try.func28, Try.ntmps28
    go_wp2_with fail
    go_ret
    exact ⟨by rw [HF.out]; rfl, B0.out⟩
  have b3 : (s.next == s'.next) = true := by simpa using k3
  have c3 : (s.next != s'.next) = false := by simpa using k3
  by_cases k4 : s.rl = s'.rl
  rotate_left
  · have b4 : (s.rl == s'.rl) = false := by simpa using k4
    have c4 : (s.rl != s'.rl) = true := by simpa using k4
    have HF : Hid (rsB s s' LL LL' = false) := by unfold Hid rsB; simp [b0, b1, b2, b3, b4]
    clear k0 k1 k2 k3 k4
    go_enter Try.func28, Try.ntmps28
    go_wp2_with fail
    go_ret
    exact ⟨by rw [HF.out]; rfl, B0.out⟩
  have b4 : (s.rl == s'.rl) = true := by simpa using k4
  have c4 : (s.rl != s'.rl) = false := by simpa using k4
  by_cases hnm : n = n'
  rotate_left
  · have b5 : ((n : Int) == (n' : Int)) = false := by rw [beq_eq_false_iff_ne]; omega
    have c5 : ((n : Int) != (n' : Int)) = true := by rw [bne_iff_ne]; omega
    have HF : Hid (rsB s s' LL LL' = false) := by
      have hne : ¬ LL = LL' := fun e => by have := HL.out; rw [e] at this; omega
      unfold Hid rsB; simp [hne]
    clear k0 k1 k2 k3 k4 hnm
    go_enter Try.func28, Try.ntmps28
    go_wp2_with fail
    go_ret
    exact ⟨by rw [HF.out]; rfl, B0.out⟩
  subst hnm
  have HB5 : Hid (rsB s s' LL LL' = decide (LL = LL')) := by unfold Hid rsB; simp [b0, b1, b2, b3, b4]
  rw [HB5.out]
  obtain ⟨t, ht⟩ : ∃ t, decide (LL = LL') = t := ⟨_, rfl⟩
  have HT := Lib.hid ht
  rw [ht]
  have HXY : Hid (∀ W, Below W0.heap.size W0 W → W.cell? ⟨X, 3, none⟩ = some (.slice A n c) ∧ W.cell? ⟨X + 1, 3, none⟩ = some (.slice A' n c')) := fun W hb => ⟨cell_later hb x3, cell_later hb y3⟩
  clear k0 k1 k2 k3 k4 ht
  go_enter Try.func28, Try.ntmps28
  go_wp2_with fail
  go_loopw [5] (fun iv wr => RsR n LL LL' W0 iv wr) (fun i _ => n - (intOf i).toNat)
  case atStart => exact ⟨⟨0, Nat.zero_le _, rfl, fun i hi => by omega, Below.refl _ _⟩⟩
  case round =>
    clear x0 x1 x2 x3 x4 x5 y0 y1 y2 y3 y4 y5
    obtain ⟨⟨j, hj, rfl, hall, hb⟩⟩ := hrel
    have HA := Lib.hid hall
    have HB := Lib.hid hb
    obtain ⟨x3, y3⟩ := HXY.out wr hb
    clear hall hb
    by_cases hlt : j < n
    rotate_left
    · have HF : Hid (t = true) := by
        unfold Hid
        rw [← HT.out, decide_eq_true_eq]
        exact eq_of_all HL.out.1 HL.out.2.1 fun i hi => HA.out i (by omega)
      have hjI : ¬ (j : Int) < (n : Int) := by omega
      have HBF : Hid (Below X w wr) := B0.out.trans (HB.out.mono (by have := S0.out; omega))
      clear hlt hj
      go_wp2_with fail
      go_ret
      exact ⟨by rw [HF.out]; rfl, HBF.out⟩
    have hjI : (j : Int) < (n : Int) := by omega
    have HJ : Hid (j < n) := hlt
    have hj1 : (j : Int) ≤ 1000 := by have := HL.out; omega
    obtain ⟨A1, c1, L, hs, hl, hsq⟩ := HM.out.get (i := j) (by have := HL.out; omega)
    obtain ⟨bb, off, hA, hbl, hc⟩ := sl_at HV.out hlt hs
    obtain ⟨A2, c2, L', hs', hl', hsq'⟩ := HM'.out.get (i := j) (by have := HL.out; omega)
    obtain ⟨bb', off', hA', hbl', hc'⟩ := sl_at HV'.out hlt hs'
    subst hA hA'
    have e0 : wr.cell? ⟨bb, off + j, none⟩ = some (.slice A1 L.length c1) := (HB.out.cell hbl).trans hc
    have e1 : wr.cell? ⟨bb', off' + j, none⟩ = some (.slice A2 L'.length c2) := (HB.out.cell hbl').trans hc'
    have HLJ : Hid (LL[j]? = some L ∧ LL'[j]? = some L' ∧ L.length ≤ 1000) := ⟨hl, hl', HL.out.2.2.2 L (List.mem_of_getElem? hl)⟩
    have CE : Hid (∀ W, Below wr.heap.size wr W → Calls Try.prog 21 #[.slice A1 L.length c1, .slice A2 L'.length c2] W fun e w' => e = .returned (.bool (decide (L = L'))) ∧ Below W.heap.size W w') := fun W hb => rwords_any _ _ _ _ L L' W ((hsq.belowP HB.out).belowP hb).st ((hsq'.belowP HB.out).belowP hb).st (by have := HLJ.out; omega)
    clear hs hl hsq hbl hc hs' hl' hsq' hbl' hc' hlt hj
    obtain ⟨nl, hnl⟩ : ∃ nl, L.length = nl := ⟨_, rfl⟩
    obtain ⟨nl', hnl'⟩ : ∃ nl', L'.length = nl' := ⟨_, rfl⟩
    rw [hnl] at e0 CE
    rw [hnl'] at e1 CE
    clear hnl hnl'
    by_cases hLL : L = L'
    · rw [decide_eq_true hLL] at CE
      have HA1 : Hid (∀ i, i < j + 1 → LL[i]? = LL'[i]?) := fun i hi => by
        by_cases h1 : i < j
        · exact HA.out i h1
        · have : i = j := by omega
          subst this
          rw [HLJ.out.1, HLJ.out.2.1, hLL]
      clear hLL
      go_wp2_with fail
      refine wp_region_held_drew (S := (fun w' => Below wr.heap.size wr w' ∧ w'.cell? ⟨X, 3, none⟩ = some (.slice (some ⟨bb, off, none⟩) n c) ∧ w'.cell? ⟨X + 1, 3, none⟩ = some (.slice (some ⟨bb', off', none⟩) n c') ∧ w'.cell? ⟨bb, off + j, none⟩ = some (.slice A1 nl c1) ∧ w'.cell? ⟨bb', off' + j, none⟩ = some (.slice A2 nl' c2))) (by kernel_rfl) ?_ (fun hHeld => ?_)
      · exact ⟨(Below.refl _ _).drew, x3, y3, e0, e1⟩
      refine takeD (i := 0) (d := some 55) (v := ?_) _ rfl rfl (by kernel_rfl) (by kernel_rfl) (by kernel_rfl) (fun _ _ _ h => h) (by rfl) ?_ (by assumption) ?_
      rotate_left
      · (intro w hSw; (try dsimp only at hSw); go_simp) <;> with_reducible rfl
      try simp only [Act.put, List.setIfInBounds_toArray, List.set_cons_zero, List.set_cons_succ]
      refine takeD (i := 1) (d := some 56) (v := ?_) _ rfl rfl (by kernel_rfl) (by kernel_rfl) (by kernel_rfl) (fun _ _ _ h => h) (by rfl) ?_ (by assumption) ?_
      rotate_left
      · (intro w hSw; (try dsimp only at hSw); go_simp) <;> with_reducible rfl
      try simp only [Act.put, List.setIfInBounds_toArray, List.set_cons_zero, List.set_cons_succ]
      refine takeD (i := 2) (d := some 57) (v := ?_) _ rfl rfl (by kernel_rfl) (by kernel_rfl) (by kernel_rfl) (fun _ _ _ h => h) (by rfl) ?_ (by assumption) ?_
      rotate_left
      · (intro w hSw; (try dsimp only at hSw); go_simp) <;> with_reducible rfl
      try simp only [Act.put, List.setIfInBounds_toArray, List.set_cons_zero, List.set_cons_succ]
      refine takeD (i := 3) (d := some 58) (v := ?_) _ rfl rfl (by kernel_rfl) (by kernel_rfl) (by kernel_rfl) (fun _ _ _ h => h) (by rfl) ?_ (by assumption) ?_
      rotate_left
      · (intro w hSw; (try dsimp only at hSw); go_simp) <;> with_reducible rfl
      try simp only [Act.put, List.setIfInBounds_toArray, List.set_cons_zero, List.set_cons_succ]
      refine takeD (i := 4) (d := some 59) (v := ?_) _ rfl rfl (by kernel_rfl) (by kernel_rfl) (by kernel_rfl) (fun _ _ _ h => h) (by rfl) ?_ (by assumption) ?_
      rotate_left
      · (intro w hSw; (try dsimp only at hSw); go_simp) <;> with_reducible rfl
      try simp only [Act.put, List.setIfInBounds_toArray, List.set_cons_zero, List.set_cons_succ]
      refine takeD (i := 5) (d := some 60) (v := ?_) _ rfl rfl (by kernel_rfl) (by kernel_rfl) (by kernel_rfl) (fun _ _ _ h => h) (by rfl) ?_ (by assumption) ?_
      rotate_left
      · (intro w hSw; (try dsimp only at hSw); go_simp) <;> with_reducible rfl
      try simp only [Act.put, List.setIfInBounds_toArray, List.set_cons_zero, List.set_cons_succ]
      refine takeD (i := 6) (d := some 61) (v := ?_) _ rfl rfl (by kernel_rfl) (by kernel_rfl) (by kernel_rfl) (fun _ _ _ h => h) (by rfl) ?_ (by assumption) ?_
      rotate_left
      · (intro w hSw; (try dsimp only at hSw); go_simp) <;> with_reducible rfl
      try simp only [Act.put, List.setIfInBounds_toArray, List.set_cons_zero, List.set_cons_succ]
      refine takeD (i := 7) (d := some 62) (v := ?_) _ rfl rfl (by kernel_rfl) (by kernel_rfl) (by kernel_rfl) (fun _ _ _ h => h) (by rfl) ?_ (by assumption) ?_
      rotate_left
      · (intro w hSw; (try dsimp only at hSw); go_simp) <;> with_reducible rfl
      try simp only [Act.put, List.setIfInBounds_toArray, List.set_cons_zero, List.set_cons_succ]
      refine takeD (i := 8) (d := some 63) (v := ?_) _ rfl rfl (by kernel_rfl) (by kernel_rfl) (by kernel_rfl) (fun _ _ _ h => h) (by rfl) ?_ (by assumption) ?_
      rotate_left
      · (intro w hSw; (try dsimp only at hSw); go_simp) <;> with_reducible rfl
      try simp only [Act.put, List.setIfInBounds_toArray, List.set_cons_zero, List.set_cons_succ]
      refine takeD (i := 9) (d := some 64) (v := ?_) _ rfl rfl (by kernel_rfl) (by kernel_rfl) (by kernel_rfl) (fun _ _ _ h => h) (by rfl) ?_ (by assumption) ?_
      rotate_left
      · (intro w hSw; (try dsimp only at hSw); go_simp) <;> with_reducible rfl
      try simp only [Act.put, List.setIfInBounds_toArray, List.set_cons_zero, List.set_cons_succ]
      refine wpAnyH_ready (rs := [10]) (by kernel_rfl) (by simp) ?_
      refine AllReadyH.cons rfl (fun K hK => ?_) AllReadyH.nil
      try go_simp
      go_at_call 21
      refine (CE.out _ hHeld.1).mono ?_
      rintro e w2 ⟨rfl, b2⟩
      try go_wp2_with fail
      refine hK.out _ _ ?_ (fun hHeld => ?_)
      · exact ⟨hHeld.1.trans (b2.mono hHeld.1.size), cell_later b2 hHeld.2.1, cell_later b2 hHeld.2.2.1, cell_later b2 hHeld.2.2.2.1, cell_later b2 hHeld.2.2.2.2⟩
      clear hK K
      try simp only [Act.put, List.setIfInBounds_toArray, List.set_cons_zero, List.set_cons_succ]
      refine takeD (i := 11) (d := some 66) (v := ?_) _ rfl rfl (by kernel_rfl) (by kernel_rfl) (by kernel_rfl) (fun _ _ _ h => h) (by rfl) ?_ (by assumption) ?_
      rotate_left
      · (intro w hSw; (try dsimp only at hSw); go_simp) <;> with_reducible rfl
      try simp only [Act.put, List.setIfInBounds_toArray, List.set_cons_zero, List.set_cons_succ]
      refine wpAnyH_done (by kernel_rfl) ?_ _
      have B2 : Hid (Below W0.heap.size W0 _) := HB.out.trans (hHeld.1.mono HB.out.size)
      clear hHeld e0 e1 CE x3 y3
      go_wp2_with fail
      go_roundw
      case rel =>
        have Q : RsR n LL LL' W0 (.int .i64 ((j : Int) + 1)) _ := ⟨⟨j + 1, HJ.out, by go_num, HA1.out, B2.out⟩⟩
        first | exact Q | ((repeat apply Exists.intro); exact ⟨Q, rfl⟩)
      case measure => have := HJ.out; simp [intOf]; omega
    · rw [decide_eq_false hLL] at CE
      have HF : Hid (t = false) := by
        unfold Hid
        rw [← HT.out, decide_eq_false_iff_not]
        intro e
        have h1 := HLJ.out
        rw [e, h1.2.1] at h1
        exact hLL (by injection h1.1 with h1; exact h1.symm)
      clear hLL
      go_wp2_with fail
      refine wp_region_held_drew (S := (fun w' => Below wr.heap.size wr w' ∧ w'.cell? ⟨X, 3, none⟩ = some (.slice (some ⟨bb, off, none⟩) n c) ∧ w'.cell? ⟨X + 1, 3, none⟩ = some (.slice (some ⟨bb', off', none⟩) n c') ∧ w'.cell? ⟨bb, off + j, none⟩ = some (.slice A1 nl c1) ∧ w'.cell? ⟨bb', off' + j, none⟩ = some (.slice A2 nl' c2))) (by kernel_rfl) ?_ (fun hHeld => ?_)
      · exact ⟨(Below.refl _ _).drew, x3, y3, e0, e1⟩
      refine takeD (i := 0) (d := some 55) (v := ?_) _ rfl rfl (by kernel_rfl) (by kernel_rfl) (by kernel_rfl) (fun _ _ _ h => h) (by rfl) ?_ (by assumption) ?_
      rotate_left
      · (intro w hSw; (try dsimp only at hSw); go_simp) <;> with_reducible rfl
      try simp only [Act.put, List.setIfInBounds_toArray, List.set_cons_zero, List.set_cons_succ]
      refine takeD (i := 1) (d := some 56) (v := ?_) _ rfl rfl (by kernel_rfl) (by kernel_rfl) (by kernel_rfl) (fun _ _ _ h => h) (by rfl) ?_ (by assumption) ?_
      rotate_left
      · (intro w hSw; (try dsimp only at hSw); go_simp) <;> with_reducible rfl
      try simp only [Act.put, List.setIfInBounds_toArray, List.set_cons_zero, List.set_cons_succ]
      refine takeD (i := 2) (d := some 57) (v := ?_) _ rfl rfl (by kernel_rfl) (by kernel_rfl) (by kernel_rfl) (fun _ _ _ h => h) (by rfl) ?_ (by assumption) ?_
      rotate_left
      · (intro w hSw; (try dsimp only at hSw); go_simp) <;> with_reducible rfl
      try simp only [Act.put, List.setIfInBounds_toArray, List.set_cons_zero, List.set_cons_succ]
      refine takeD (i := 3) (d := some 58) (v := ?_) _ rfl rfl (by kernel_rfl) (by kernel_rfl) (by kernel_rfl) (fun _ _ _ h => h) (by rfl) ?_ (by assumption) ?_
      rotate_left
      · (intro w hSw; (try dsimp only at hSw); go_simp) <;> with_reducible rfl
      try simp only [Act.put, List.setIfInBounds_toArray, List.set_cons_zero, List.set_cons_succ]
      refine takeD (i := 4) (d := some 59) (v := ?_) _ rfl rfl (by kernel_rfl) (by kernel_rfl) (by kernel_rfl) (fun _ _ _ h => h) (by rfl) ?_ (by assumption) ?_
      rotate_left
      · (intro w hSw; (try dsimp only at hSw); go_simp) <;> with_reducible rfl
      try simp only [Act.put, List.setIfInBounds_toArray, List.set_cons_zero, List.set_cons_succ]
      refine takeD (i := 5) (d := some 60) (v := ?_) _ rfl rfl (by kernel_rfl) (by kernel_rfl) (by kernel_rfl) (fun _ _ _ h => h) (by rfl) ?_ (by assumption) ?_
      rotate_left
      · (intro w hSw; (try dsimp only at hSw); go_simp) <;> with_reducible rfl
      try simp only [Act.put, List.setIfInBounds_toArray, List.set_cons_zero, List.set_cons_succ]
      refine takeD (i := 6) (d := some 61) (v := ?_) _ rfl rfl (by kernel_rfl) (by kernel_rfl) (by kernel_rfl) (fun _ _ _ h => h) (by rfl) ?_ (by assumption) ?_
      rotate_left
      · (intro w hSw; (try dsimp only at hSw); go_simp) <;> with_reducible rfl
      try simp only [Act.put, List.setIfInBounds_toArray, List.set_cons_zero, List.set_cons_succ]
      refine takeD (i := 7) (d := some 62) (v := ?_) _ rfl rfl (by kernel_rfl) (by kernel_rfl) (by kernel_rfl) (fun _ _ _ h => h) (by rfl) ?_ (by assumption) ?_
      rotate_left
      · (intro w hSw; (try dsimp only at hSw); go_simp) <;> with_reducible rfl
      try simp only [Act.put, List.setIfInBounds_toArray, List.set_cons_zero, List.set_cons_succ]
      refine takeD (i := 8) (d := some 63) (v := ?_) _ rfl rfl (by kernel_rfl) (by kernel_rfl) (by kernel_rfl) (fun _ _ _ h => h) (by rfl) ?_ (by assumption) ?_
      rotate_left
      · (intro w hSw; (try dsimp only at hSw); go_simp) <;> with_reducible rfl
      try simp only [Act.put, List.setIfInBounds_toArray, List.set_cons_zero, List.set_cons_succ]
      refine takeD (i := 9) (d := some 64) (v := ?_) _ rfl rfl (by kernel_rfl) (by kernel_rfl) (by kernel_rfl) (fun _ _ _ h => h) (by rfl) ?_ (by assumption) ?_
      rotate_left
      · (intro w hSw; (try dsimp only at hSw); go_simp) <;> with_reducible rfl
      try simp only [Act.put, List.setIfInBounds_toArray, List.set_cons_zero, List.set_cons_succ]
      refine wpAnyH_ready (rs := [10]) (by kernel_rfl) (by simp) ?_
      refine AllReadyH.cons rfl (fun K hK => ?_) AllReadyH.nil
      try go_simp
      go_at_call 21
      refine (CE.out _ hHeld.1).mono ?_
      rintro e w2 ⟨rfl, b2⟩
      try go_wp2_with fail
      refine hK.out _ _ ?_ (fun hHeld => ?_)
      · exact ⟨hHeld.1.trans (b2.mono hHeld.1.size), cell_later b2 hHeld.2.1, cell_later b2 hHeld.2.2.1, cell_later b2 hHeld.2.2.2.1, cell_later b2 hHeld.2.2.2.2⟩
      clear hK K
      try simp only [Act.put, List.setIfInBounds_toArray, List.set_cons_zero, List.set_cons_succ]
      refine takeD (i := 11) (d := some 66) (v := ?_) _ rfl rfl (by kernel_rfl) (by kernel_rfl) (by kernel_rfl) (fun _ _ _ h => h) (by rfl) ?_ (by assumption) ?_
      rotate_left
      · (intro w hSw; (try dsimp only at hSw); go_simp) <;> with_reducible rfl
      try simp only [Act.put, List.setIfInBounds_toArray, List.set_cons_zero, List.set_cons_succ]
      refine wpAnyH_done (by kernel_rfl) ?_ _
      have B2 : Hid (Below W0.heap.size W0 _) := HB.out.trans (hHeld.1.mono HB.out.size)
      clear hHeld e0 e1 CE x3 y3
      go_wp2_with fail
      have HBF := Lib.hid (B0.out.trans (B2.out.mono (by have := S0.out; omega)))
      go_ret
      exact ⟨by rw [HF.out]; rfl, HBF.out⟩
end Go.Proofs.Ytkbjonblflhkoaa.Ln
