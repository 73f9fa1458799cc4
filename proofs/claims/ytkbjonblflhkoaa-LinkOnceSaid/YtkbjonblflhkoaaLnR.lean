/-
  What the reference answers of senders. Each statement bears its own conditions.
-/
import Derived.Test.YtkbjonblflhkoaaLnC
namespace Go.Proofs.Ytkbjonblflhkoaa.Ln
open Go.RowKit Go.Proofs.Ytkbjonblflhkoaa.F Go.Proofs.Ytkbjonblflhkoaa.U Go.Proofs.Ytkbjonblflhkoaa.Q
set_option linter.unusedVariables false
set_option linter.unusedSimpArgs false
set_option maxRecDepth 100000 in
set_option maxHeartbeats 4000000 in
theorem rwords_any (g g' : Nat) (v v' : Value) (a b : List Int) (w : World) (h : St g w 1 v a.length (CU a)) (h' : St g' w 1 v' b.length (CU b)) (hm : a.length ≤ 5000) :
    Calls Try.prog 21 #[v, v'] w fun e w' => e = .returned (.bool (decide (a = b))) ∧ Below w.heap.size w w' := by
  obtain ⟨A, c, rfl⟩ := h.form
  obtain ⟨A', c', rfl⟩ := h'.form
  obtain ⟨n, hn⟩ : ∃ n, a.length = n := ⟨_, rfl⟩
  obtain ⟨m, hn'⟩ : ∃ m, b.length = m := ⟨_, rfl⟩
  obtain ⟨t, ht⟩ : ∃ t, decide (a = b) = t := ⟨_, rfl⟩
  rw [hn] at h hm ⊢
  rw [hn'] at h' ⊢
  rw [ht]
  have HN := Lib.hid hn
  have HN' := Lib.hid hn'
  have HT := Lib.hid ht
  have H := Lib.hid h
  have H' := Lib.hid h'
  clear hn hn' h h' ht
  by_cases hnm : n = m
  · subst hnm
    go_enter Try.func21, Try.ntmps21
    go_wp2_with fail
    go_loopw [5] (fun v wr => EqRel n a b w v wr) (fun v => fun _ => n - (intOf v).toNat)
    case atStart => exact ⟨⟨0, Nat.zero_le _, rfl, fun j hj => by omega, Below.refl _ _⟩⟩
    case round =>
      obtain ⟨⟨k, hk, rfl, hall, hb⟩⟩ := hrel
      have HK := Lib.hid hk
      have HA := Lib.hid hall
      have HB := Lib.hid hb
      clear hk hall hb
      by_cases hlt : k < n
      · have hkI : (k : Int) < (n : Int) := by omega
        have HX : Hid (k < n) := hlt
        obtain ⟨_, q, off, rfl, hbl, hg, hc⟩ := H.out.at_ hlt
        obtain ⟨_, q', off', rfl, hbl', hg', hc'⟩ := H'.out.at_ hlt
        obtain ⟨x, hx⟩ : ∃ x, a[k]? = some x := ⟨_, List.getElem?_eq_getElem (by have := HN.out; omega)⟩
        obtain ⟨y, hy⟩ : ∃ y, b[k]? = some y := ⟨_, List.getElem?_eq_getElem (by have := HN'.out; omega)⟩
        have HXS := Lib.hid hx
        have HYS := Lib.hid hy
        have d0 : wr.cell? ⟨q, off + k, none⟩ = some (.int .u32 x) := cell_later HB.out (hc k _ (CU_at hx))
        have e0 : wr.cell? ⟨q', off' + k, none⟩ = some (.int .u32 y) := cell_later HB.out (hc' k _ (CU_at hy))
        clear hc hc' hbl hbl' hg hg' hx hy hlt
        by_cases hxy : x = y
        · subst hxy
          have HE : Hid (a[k]? = b[k]?) := HXS.out.trans HYS.out.symm
          go_wp2_with fail
          refine wp_region_held_drew (S := (fun w' => Below w.heap.size w w' ∧ w'.cell? ⟨q, off + k, none⟩ = some (.int .u32 x) ∧ w'.cell? ⟨q', off' + k, none⟩ = some (.int .u32 x))) (by kernel_rfl) ?_ (fun hHeld => ?_)
          · exact ⟨below_drewN HB.out 1, d0, e0⟩
          refine takeD (i := 0) (d := some 17) (v := ?_) _ rfl rfl (by kernel_rfl) (by kernel_rfl) (by kernel_rfl) (fun _ _ _ h => h) (by rfl) ?_ (by assumption) ?_
          rotate_left
          · (intro w hSw; (try dsimp only at hSw); go_simp) <;> with_reducible rfl
          try simp only [Act.put, List.setIfInBounds_toArray, List.set_cons_zero, List.set_cons_succ]
          refine takeD (i := 1) (d := some 18) (v := ?_) _ rfl rfl (by kernel_rfl) (by kernel_rfl) (by kernel_rfl) (fun _ _ _ h => h) (by rfl) ?_ (by assumption) ?_
          rotate_left
          · (intro w hSw; (try dsimp only at hSw); go_simp) <;> with_reducible rfl
          try simp only [Act.put, List.setIfInBounds_toArray, List.set_cons_zero, List.set_cons_succ]
          refine takeD (i := 2) (d := some 19) (v := ?_) _ rfl rfl (by kernel_rfl) (by kernel_rfl) (by kernel_rfl) (fun _ _ _ h => h) (by rfl) ?_ (by assumption) ?_
          rotate_left
          · (intro w hSw; (try dsimp only at hSw); go_simp) <;> with_reducible rfl
          try simp only [Act.put, List.setIfInBounds_toArray, List.set_cons_zero, List.set_cons_succ]
          refine takeD (i := 3) (d := some 20) (v := ?_) _ rfl rfl (by kernel_rfl) (by kernel_rfl) (by kernel_rfl) (fun _ _ _ h => h) (by rfl) ?_ (by assumption) ?_
          rotate_left
          · (intro w hSw; (try dsimp only at hSw); go_simp) <;> with_reducible rfl
          try simp only [Act.put, List.setIfInBounds_toArray, List.set_cons_zero, List.set_cons_succ]
          refine takeD (i := 4) (d := some 21) (v := ?_) _ rfl rfl (by kernel_rfl) (by kernel_rfl) (by kernel_rfl) (fun _ _ _ h => h) (by rfl) ?_ (by assumption) ?_
          rotate_left
          · (intro w hSw; (try dsimp only at hSw); go_simp) <;> with_reducible rfl
          try simp only [Act.put, List.setIfInBounds_toArray, List.set_cons_zero, List.set_cons_succ]
          refine takeD (i := 5) (d := some 22) (v := ?_) _ rfl rfl (by kernel_rfl) (by kernel_rfl) (by kernel_rfl) (fun _ _ _ h => h) (by rfl) ?_ (by assumption) ?_
          rotate_left
          · (intro w hSw; (try dsimp only at hSw); go_simp) <;> with_reducible rfl
          try simp only [Act.put, List.setIfInBounds_toArray, List.set_cons_zero, List.set_cons_succ]
          refine takeD (i := 6) (d := some 23) (v := ?_) _ rfl rfl (by kernel_rfl) (by kernel_rfl) (by kernel_rfl) (fun _ _ _ h => h) (by rfl) ?_ (by assumption) ?_
          rotate_left
          · (intro w hSw; (try dsimp only at hSw); go_simp) <;> with_reducible rfl
          try simp only [Act.put, List.setIfInBounds_toArray, List.set_cons_zero, List.set_cons_succ]
          refine takeD (i := 7) (d := some 24) (v := ?_) _ rfl rfl (by kernel_rfl) (by kernel_rfl) (by kernel_rfl) (fun _ _ _ h => h) (by rfl) ?_ (by assumption) ?_
          rotate_left
          · (intro w hSw; (try dsimp only at hSw); go_simp) <;> with_reducible rfl
          try simp only [Act.put, List.setIfInBounds_toArray, List.set_cons_zero, List.set_cons_succ]
          refine takeD (i := 8) (d := some 25) (v := ?_) _ rfl rfl (by kernel_rfl) (by kernel_rfl) (by kernel_rfl) (fun _ _ _ h => h) (by rfl) ?_ (by assumption) ?_
          rotate_left
          · (intro w hSw; (try dsimp only at hSw); go_simp) <;> with_reducible rfl
          try simp only [Act.put, List.setIfInBounds_toArray, List.set_cons_zero, List.set_cons_succ]
          refine wpAnyH_done (by kernel_rfl) ?_ _
          have HB1 := Lib.hid hHeld.1
          clear hHeld d0 e0
          go_wp2_with fail
          go_roundw
          case rel =>
            have Q : EqRel n a b w (.int .i64 ((k : Int) + 1)) wr.drew := EqRel.next HX.out HA.out HE.out HB1.out
            first | exact Q | ((repeat apply Exists.intro); exact ⟨Q, rfl⟩)
          case measure => have := HX.out; simp [intOf]; omega
        · have HF : Hid (t = false) := by
            unfold Hid
            rw [← HT.out, decide_eq_false_iff_not]
            intro hab
            rw [hab, HYS.out] at HXS
            have := HXS.out
            injection this with this
            exact hxy this.symm
          have hxb : (x == y) = false := by simpa using hxy
          have hxc : (x != y) = true := by simpa using hxy
          go_wp2_with fail
          refine wp_region_held_drew (S := (fun w' => Below w.heap.size w w' ∧ w'.cell? ⟨q, off + k, none⟩ = some (.int .u32 x) ∧ w'.cell? ⟨q', off' + k, none⟩ = some (.int .u32 y))) (by kernel_rfl) ?_ (fun hHeld => ?_)
          · exact ⟨below_drewN HB.out 1, d0, e0⟩
          refine takeD (i := 0) (d := some 17) (v := ?_) _ rfl rfl (by kernel_rfl) (by kernel_rfl) (by kernel_rfl) (fun _ _ _ h => h) (by rfl) ?_ (by assumption) ?_
          rotate_left
          · (intro w hSw; (try dsimp only at hSw); go_simp) <;> with_reducible rfl
          try simp only [Act.put, List.setIfInBounds_toArray, List.set_cons_zero, List.set_cons_succ]
          refine takeD (i := 1) (d := some 18) (v := ?_) _ rfl rfl (by kernel_rfl) (by kernel_rfl) (by kernel_rfl) (fun _ _ _ h => h) (by rfl) ?_ (by assumption) ?_
          rotate_left
          · (intro w hSw; (try dsimp only at hSw); go_simp) <;> with_reducible rfl
          try simp only [Act.put, List.setIfInBounds_toArray, List.set_cons_zero, List.set_cons_succ]
          refine takeD (i := 2) (d := some 19) (v := ?_) _ rfl rfl (by kernel_rfl) (by kernel_rfl) (by kernel_rfl) (fun _ _ _ h => h) (by rfl) ?_ (by assumption) ?_
          rotate_left
          · (intro w hSw; (try dsimp only at hSw); go_simp) <;> with_reducible rfl
          try simp only [Act.put, List.setIfInBounds_toArray, List.set_cons_zero, List.set_cons_succ]
          refine takeD (i := 3) (d := some 20) (v := ?_) _ rfl rfl (by kernel_rfl) (by kernel_rfl) (by kernel_rfl) (fun _ _ _ h => h) (by rfl) ?_ (by assumption) ?_
          rotate_left
          · (intro w hSw; (try dsimp only at hSw); go_simp) <;> with_reducible rfl
          try simp only [Act.put, List.setIfInBounds_toArray, List.set_cons_zero, List.set_cons_succ]
          refine takeD (i := 4) (d := some 21) (v := ?_) _ rfl rfl (by kernel_rfl) (by kernel_rfl) (by kernel_rfl) (fun _ _ _ h => h) (by rfl) ?_ (by assumption) ?_
          rotate_left
          · (intro w hSw; (try dsimp only at hSw); go_simp) <;> with_reducible rfl
          try simp only [Act.put, List.setIfInBounds_toArray, List.set_cons_zero, List.set_cons_succ]
          refine takeD (i := 5) (d := some 22) (v := ?_) _ rfl rfl (by kernel_rfl) (by kernel_rfl) (by kernel_rfl) (fun _ _ _ h => h) (by rfl) ?_ (by assumption) ?_
          rotate_left
          · (intro w hSw; (try dsimp only at hSw); go_simp) <;> with_reducible rfl
          try simp only [Act.put, List.setIfInBounds_toArray, List.set_cons_zero, List.set_cons_succ]
          refine takeD (i := 6) (d := some 23) (v := ?_) _ rfl rfl (by kernel_rfl) (by kernel_rfl) (by kernel_rfl) (fun _ _ _ h => h) (by rfl) ?_ (by assumption) ?_
          rotate_left
          · (intro w hSw; (try dsimp only at hSw); go_simp) <;> with_reducible rfl
          try simp only [Act.put, List.setIfInBounds_toArray, List.set_cons_zero, List.set_cons_succ]
          refine takeD (i := 7) (d := some 24) (v := ?_) _ rfl rfl (by kernel_rfl) (by kernel_rfl) (by kernel_rfl) (fun _ _ _ h => h) (by rfl) ?_ (by assumption) ?_
          rotate_left
          · (intro w hSw; (try dsimp only at hSw); go_simp) <;> with_reducible rfl
          try simp only [Act.put, List.setIfInBounds_toArray, List.set_cons_zero, List.set_cons_succ]
          refine takeD (i := 8) (d := some 25) (v := ?_) _ rfl rfl (by kernel_rfl) (by kernel_rfl) (by kernel_rfl) (fun _ _ _ h => h) (by rfl) ?_ (by assumption) ?_
          rotate_left
          · (intro w hSw; (try dsimp only at hSw); go_simp) <;> with_reducible rfl
          try simp only [Act.put, List.setIfInBounds_toArray, List.set_cons_zero, List.set_cons_succ]
          refine wpAnyH_done (by kernel_rfl) ?_ _
          have HB1 := Lib.hid hHeld.1
          clear hHeld d0 e0
          go_wp2_with fail
          go_ret
          exact ⟨by rw [HF.out]; rfl, HB1.out⟩
      · have hkn : k = n := by have := HK.out; omega
        subst hkn
        have HF : Hid (t = true) := by
          unfold Hid
          rw [← HT.out, decide_eq_true_eq]
          exact eq_of_all HN.out HN'.out HA.out
        clear hlt
        go_wp2_with fail
        go_ret
        exact ⟨by rw [HF.out]; rfl, HB.out⟩
  · have HF : Hid (t = false) := by
      unfold Hid
      rw [← HT.out, decide_eq_false_iff_not]
      intro hab
      exact hnm (by rw [← HN.out, ← HN'.out, hab])
    have hnmB : ((n : Int) == (m : Int)) = false := by rw [beq_eq_false_iff_ne]; omega
    have hnmC : ((n : Int) != (m : Int)) = true := by rw [bne_iff_ne]; omega
    go_enter Try.func21, Try.ntmps21
    go_wp2_with fail
    go_ret
    exact ⟨by rw [HF.out]; rfl, Below.refl _ _⟩
theorem rowU_new (w : World) : (w.alloc (.cells #[] 47)).ownsRow w.heap.size 47 1 (.slice (some ⟨w.heap.size, 0, none⟩) 0 0) 0 [] :=
  ⟨rfl, .inr ⟨w.heap.size, 0, #[], rfl, Nat.le_refl _, heap_alloc_new w _, Nat.le_refl _, by unfold maxLen; omega, rfl, rfl⟩⟩
theorem _root_.Go.Proofs.Ytkbjonblflhkoaa.F.Ow.tyb {w : World} {p : Nat → Prop} {v : Value} {n : Nat} {xs : List Value} (h : Ow 33 w p v n xs) : Ty w (fun b => v.ownBlock = some b) := fun b hb hl => by
  rcases h.form with ⟨h0, _⟩ | ⟨b1, cap, cur, hv, _, _, hg1, _⟩
  · rw [h0] at hb; cases hb
  · rw [hv] at hb
    injection hb with hb
    have hb : b1 = b := hb
    subst hb
    exact ⟨_, _, _, hg1, fun e => ne_us e.symm⟩
theorem set_six {w : World} {g : Nat} {c0 c1 c2 c3 c4 c5 : Value} {t : TypeId} (h : w.heap[g]? = some (.cells #[c0, c1, c2, c3, c4, c5] t (0, 0))) (a0 a1 a2 a3 a4 a5 : Value) : ((((((w.setCell ⟨g, 0, none⟩ a0).setCell ⟨g, 1, none⟩ a1).setCell ⟨g, 2, none⟩ a2).setCell ⟨g, 3, none⟩ a3).setCell ⟨g, 4, none⟩ a4).setCell ⟨g, 5, none⟩ a5).rangeAt g 0 [a0, a1, a2, a3, a4, a5] := by
  have h1 := (set_at (set_at (set_at (set_at (set_at (set_at h 0 a0) 1 a1) 2 a2) 3 a3) 4 a4) 5 a5)
  intro j v hv
  rw [Nat.zero_add, (row_cell h1 j).1]
  simpa using hv
theorem results_cell_cell {P : Program} {fn : Func} {p q s : Tmp} {ty ty2 : TypeId} (h : fn.results = #[.cell p ty, .cell q ty2, .tmp s]) (tmps : Array Value) (w : World) (g g2 : Nat) (cs cs2 : List Value) (d d2 : TypeDesc)
    (hp : tmps.getD p undef = .pointer (some ⟨g, 0, none⟩)) (hc : w.rangeAt g 0 cs) (hu : P.underlying ty = some d) (hd : d.isRow = true) (hi : (P.info? ty).map (·.size) = some cs.length)
    (hp2 : tmps.getD q undef = .pointer (some ⟨g2, 0, none⟩)) (hc2 : w.rangeAt g2 0 cs2) (hu2 : P.underlying ty2 = some d2) (hd2 : d2.isRow = true) (hi2 : (P.info? ty2).map (·.size) = some cs2.length) :
    (results fn tmps).run P w = .ok (.tuple #[.agg cs.toArray, .agg cs2.toArray, tmps.getD s undef]) w := by
  have hp' : tmps[p]?.getD undef = .pointer (some ⟨g, 0, none⟩) := by simpa using hp
  have hq' : tmps[q]?.getD undef = .pointer (some ⟨g2, 0, none⟩) := by simpa using hp2
  simp [results, h, hp', hq', asAddr, run_loadVar_mid w g 0 ty cs d hc hu hd hi, run_loadVar_mid w g2 0 ty2 cs2 d2 hc2 hu2 hd2 hi2]
set_option maxRecDepth 100000 in
set_option maxHeartbeats 8000000 in
theorem roffer_range (gap words room next rl : Int) (Ar : Option Addr) (nr cr : Nat) (Ak : Option Addr) (nk ck : Nat) (w : World) (hk : words < (nk : Int)) :
    Calls Try.prog 29 #[.agg #[.int .i64 gap, .int .i64 words, .int .i64 room, .slice Ar nr cr, .int .i64 next, .int .i64 rl], .slice Ak nk ck] w fun e w' => e = .returned (.tuple #[.agg #[.int .i64 gap, .int .i64 words, .int .i64 room, .slice Ar nr cr, .int .i64 next, .int .i64 rl], .int .i64 2]) ∧ Below w.heap.size w w' := by
  obtain ⟨X, hX⟩ : ∃ X, w.heap.size = X := ⟨_, rfl⟩
  obtain ⟨W0, hW0⟩ : ∃ W0, ((w.alloc (.cells #[.int .i64 gap, .int .i64 words, .int .i64 room, .slice Ar nr cr, .int .i64 next, .int .i64 rl] 27)).alloc (.cells #[.int .i64 0, .int .i64 0, .int .i64 0, .slice none 0 0, .int .i64 0, .int .i64 0] 27)) = W0 := ⟨_, rfl⟩
  have B0 : Hid (Below X w W0) := by rw [← hW0, ← hX]; exact (((Below.refl _ _).alloc (by first | exact Nat.le_refl _ | (simp; done) | (simp; omega)) _).alloc (by first | exact Nat.le_refl _ | (simp; done) | (simp; omega)) _)
  have S0 : Hid (W0.heap.size = X + 2) := by unfold Hid; rw [← hW0, ← hX]; simp
  have HB0 : Hid (W0.heap[X]? = some (.cells #[.int .i64 gap, .int .i64 words, .int .i64 room, .slice Ar nr cr, .int .i64 next, .int .i64 rl] 27 (0, 0))) := by
    have h0 := heap_alloc_new w (.cells #[.int .i64 gap, .int .i64 words, .int .i64 room, .slice Ar nr cr, .int .i64 next, .int .i64 rl] 27)
    unfold Hid
    rw [← hW0, ← hX]
    have h1 : (w.alloc (.cells #[.int .i64 gap, .int .i64 words, .int .i64 room, .slice Ar nr cr, .int .i64 next, .int .i64 rl] 27)).heap[w.heap.size]? = some (.cells #[.int .i64 gap, .int .i64 words, .int .i64 room, .slice Ar nr cr, .int .i64 next, .int .i64 rl] 27 (0, 0)) := by simpa using h0
    have h2 : ((w.alloc (.cells #[.int .i64 gap, .int .i64 words, .int .i64 room, .slice Ar nr cr, .int .i64 next, .int .i64 rl] 27)).alloc (.cells #[.int .i64 0, .int .i64 0, .int .i64 0, .slice none 0 0, .int .i64 0, .int .i64 0] 27)).heap[w.heap.size]? = some (.cells #[.int .i64 gap, .int .i64 words, .int .i64 room, .slice Ar nr cr, .int .i64 next, .int .i64 rl] 27 (0, 0)) := (heap_old _ _ (by simp)).trans h1
    exact h2
  have HB1 : Hid (W0.heap[X + 1]? = some (.cells #[.int .i64 0, .int .i64 0, .int .i64 0, .slice none 0 0, .int .i64 0, .int .i64 0] 27 (0, 0))) := by
    have h0 := heap_alloc_new (w.alloc (.cells #[.int .i64 gap, .int .i64 words, .int .i64 room, .slice Ar nr cr, .int .i64 next, .int .i64 rl] 27)) (.cells #[.int .i64 0, .int .i64 0, .int .i64 0, .slice none 0 0, .int .i64 0, .int .i64 0] 27)
    unfold Hid
    rw [← hW0, ← hX]
    have h1 : ((w.alloc (.cells #[.int .i64 gap, .int .i64 words, .int .i64 room, .slice Ar nr cr, .int .i64 next, .int .i64 rl] 27)).alloc (.cells #[.int .i64 0, .int .i64 0, .int .i64 0, .slice none 0 0, .int .i64 0, .int .i64 0] 27)).heap[w.heap.size + 1]? = some (.cells #[.int .i64 0, .int .i64 0, .int .i64 0, .slice none 0 0, .int .i64 0, .int .i64 0] 27 (0, 0)) := by simpa using h0
    exact h1
  have x0 : W0.cell? ⟨X, 0, none⟩ = some (.int .i64 gap) := by rw [(row_cell HB0.out 0).1]; rfl
  have x1 : W0.cell? ⟨X, 1, none⟩ = some (.int .i64 words) := by rw [(row_cell HB0.out 1).1]; rfl
  have x2 : W0.cell? ⟨X, 2, none⟩ = some (.int .i64 room) := by rw [(row_cell HB0.out 2).1]; rfl
  have x3 : W0.cell? ⟨X, 3, none⟩ = some (.slice Ar nr cr) := by rw [(row_cell HB0.out 3).1]; rfl
  have x4 : W0.cell? ⟨X, 4, none⟩ = some (.int .i64 next) := by rw [(row_cell HB0.out 4).1]; rfl
  have x5 : W0.cell? ⟨X, 5, none⟩ = some (.int .i64 rl) := by rw [(row_cell HB0.out 5).1]; rfl
  have xf0 : W0.frozen? ⟨X, 0, none⟩ = false := (row_cell HB0.out 0).2
  have xf1 : W0.frozen? ⟨X, 1, none⟩ = false := (row_cell HB0.out 1).2
  have xf2 : W0.frozen? ⟨X, 2, none⟩ = false := (row_cell HB0.out 2).2
  have xf3 : W0.frozen? ⟨X, 3, none⟩ = false := (row_cell HB0.out 3).2
  have xf4 : W0.frozen? ⟨X, 4, none⟩ = false := (row_cell HB0.out 4).2
  have xf5 : W0.frozen? ⟨X, 5, none⟩ = false := (row_cell HB0.out 5).2
  have y0 : W0.cell? ⟨X + 1, 0, none⟩ = some (.int .i64 0) := by rw [(row_cell HB1.out 0).1]; rfl
  have y1 : W0.cell? ⟨X + 1, 1, none⟩ = some (.int .i64 0) := by rw [(row_cell HB1.out 1).1]; rfl
  have y2 : W0.cell? ⟨X + 1, 2, none⟩ = some (.int .i64 0) := by rw [(row_cell HB1.out 2).1]; rfl
  have y3 : W0.cell? ⟨X + 1, 3, none⟩ = some (.slice none 0 0) := by rw [(row_cell HB1.out 3).1]; rfl
  have y4 : W0.cell? ⟨X + 1, 4, none⟩ = some (.int .i64 0) := by rw [(row_cell HB1.out 4).1]; rfl
  have y5 : W0.cell? ⟨X + 1, 5, none⟩ = some (.int .i64 0) := by rw [(row_cell HB1.out 5).1]; rfl
  have yf0 : W0.frozen? ⟨X + 1, 0, none⟩ = false := (row_cell HB1.out 0).2
  have yf1 : W0.frozen? ⟨X + 1, 1, none⟩ = false := (row_cell HB1.out 1).2
  have yf2 : W0.frozen? ⟨X + 1, 2, none⟩ = false := (row_cell HB1.out 2).2
  have yf3 : W0.frozen? ⟨X + 1, 3, none⟩ = false := (row_cell HB1.out 3).2
  have yf4 : W0.frozen? ⟨X + 1, 4, none⟩ = false := (row_cell HB1.out 4).2
  have yf5 : W0.frozen? ⟨X + 1, 5, none⟩ = false := (row_cell HB1.out 5).2
  rw [hX]
  have hkb : decide (words < (nk : Int)) = true := by simpa using hk
  clear hk
  go_enter Try.func29, Try.ntmps29
  go_wp2_with fail
  refine bodyPost_ret (results_cell_tmp rfl _ _ (X + 1) _ _ rfl (set_six HB1.out _ _ _ _ _ _) Try.underlying27 rfl (by kernel_rfl)) rfl ?_
  exact ⟨rfl, ((((((B0.out.setCell (by show X ≤ X + 1; omega) _).setCell (by show X ≤ X + 1; omega) _).setCell (by show X ≤ X + 1; omega) _).setCell (by show X ≤ X + 1; omega) _).setCell (by show X ≤ X + 1; omega) _).setCell (by show X ≤ X + 1; omega) _)⟩
set_option maxRecDepth 100000 in
set_option maxHeartbeats 8000000 in
theorem roffer_full (gap words room next rl : Int) (Ar : Option Addr) (nr cr : Nat) (Ak : Option Addr) (nk ck : Nat) (w : World) (hk : ¬ words < (nk : Int)) (hr : room ≤ (nr : Int)) :
    Calls Try.prog 29 #[.agg #[.int .i64 gap, .int .i64 words, .int .i64 room, .slice Ar nr cr, .int .i64 next, .int .i64 rl], .slice Ak nk ck] w fun e w' => e = .returned (.tuple #[.agg #[.int .i64 gap, .int .i64 words, .int .i64 room, .slice Ar nr cr, .int .i64 next, .int .i64 rl], .int .i64 8]) ∧ Below w.heap.size w w' := by
  obtain ⟨X, hX⟩ : ∃ X, w.heap.size = X := ⟨_, rfl⟩
  obtain ⟨W0, hW0⟩ : ∃ W0, ((w.alloc (.cells #[.int .i64 gap, .int .i64 words, .int .i64 room, .slice Ar nr cr, .int .i64 next, .int .i64 rl] 27)).alloc (.cells #[.int .i64 0, .int .i64 0, .int .i64 0, .slice none 0 0, .int .i64 0, .int .i64 0] 27)) = W0 := ⟨_, rfl⟩
  have B0 : Hid (Below X w W0) := by rw [← hW0, ← hX]; exact (((Below.refl _ _).alloc (by first | exact Nat.le_refl _ | (simp; done) | (simp; omega)) _).alloc (by first | exact Nat.le_refl _ | (simp; done) | (simp; omega)) _)
  have S0 : Hid (W0.heap.size = X + 2) := by unfold Hid; rw [← hW0, ← hX]; simp
  have HB0 : Hid (W0.heap[X]? = some (.cells #[.int .i64 gap, .int .i64 words, .int .i64 room, .slice Ar nr cr, .int .i64 next, .int .i64 rl] 27 (0, 0))) := by
    have h0 := heap_alloc_new w (.cells #[.int .i64 gap, .int .i64 words, .int .i64 room, .slice Ar nr cr, .int .i64 next, .int .i64 rl] 27)
    unfold Hid
    rw [← hW0, ← hX]
    have h1 : (w.alloc (.cells #[.int .i64 gap, .int .i64 words, .int .i64 room, .slice Ar nr cr, .int .i64 next, .int .i64 rl] 27)).heap[w.heap.size]? = some (.cells #[.int .i64 gap, .int .i64 words, .int .i64 room, .slice Ar nr cr, .int .i64 next, .int .i64 rl] 27 (0, 0)) := by simpa using h0
    have h2 : ((w.alloc (.cells #[.int .i64 gap, .int .i64 words, .int .i64 room, .slice Ar nr cr, .int .i64 next, .int .i64 rl] 27)).alloc (.cells #[.int .i64 0, .int .i64 0, .int .i64 0, .slice none 0 0, .int .i64 0, .int .i64 0] 27)).heap[w.heap.size]? = some (.cells #[.int .i64 gap, .int .i64 words, .int .i64 room, .slice Ar nr cr, .int .i64 next, .int .i64 rl] 27 (0, 0)) := (heap_old _ _ (by simp)).trans h1
    exact h2
  have HB1 : Hid (W0.heap[X + 1]? = some (.cells #[.int .i64 0, .int .i64 0, .int .i64 0, .slice none 0 0, .int .i64 0, .int .i64 0] 27 (0, 0))) := by
    have h0 := heap_alloc_new (w.alloc (.cells #[.int .i64 gap, .int .i64 words, .int .i64 room, .slice Ar nr cr, .int .i64 next, .int .i64 rl] 27)) (.cells #[.int .i64 0, .int .i64 0, .int .i64 0, .slice none 0 0, .int .i64 0, .int .i64 0] 27)
    unfold Hid
    rw [← hW0, ← hX]
    have h1 : ((w.alloc (.cells #[.int .i64 gap, .int .i64 words, .int .i64 room, .slice Ar nr cr, .int .i64 next, .int .i64 rl] 27)).alloc (.cells #[.int .i64 0, .int .i64 0, .int .i64 0, .slice none 0 0, .int .i64 0, .int .i64 0] 27)).heap[w.heap.size + 1]? = some (.cells #[.int .i64 0, .int .i64 0, .int .i64 0, .slice none 0 0, .int .i64 0, .int .i64 0] 27 (0, 0)) := by simpa using h0
    exact h1
  have x0 : W0.cell? ⟨X, 0, none⟩ = some (.int .i64 gap) := by rw [(row_cell HB0.out 0).1]; rfl
  have x1 : W0.cell? ⟨X, 1, none⟩ = some (.int .i64 words) := by rw [(row_cell HB0.out 1).1]; rfl
  have x2 : W0.cell? ⟨X, 2, none⟩ = some (.int .i64 room) := by rw [(row_cell HB0.out 2).1]; rfl
  have x3 : W0.cell? ⟨X, 3, none⟩ = some (.slice Ar nr cr) := by rw [(row_cell HB0.out 3).1]; rfl
  have x4 : W0.cell? ⟨X, 4, none⟩ = some (.int .i64 next) := by rw [(row_cell HB0.out 4).1]; rfl
  have x5 : W0.cell? ⟨X, 5, none⟩ = some (.int .i64 rl) := by rw [(row_cell HB0.out 5).1]; rfl
  have xf0 : W0.frozen? ⟨X, 0, none⟩ = false := (row_cell HB0.out 0).2
  have xf1 : W0.frozen? ⟨X, 1, none⟩ = false := (row_cell HB0.out 1).2
  have xf2 : W0.frozen? ⟨X, 2, none⟩ = false := (row_cell HB0.out 2).2
  have xf3 : W0.frozen? ⟨X, 3, none⟩ = false := (row_cell HB0.out 3).2
  have xf4 : W0.frozen? ⟨X, 4, none⟩ = false := (row_cell HB0.out 4).2
  have xf5 : W0.frozen? ⟨X, 5, none⟩ = false := (row_cell HB0.out 5).2
  have y0 : W0.cell? ⟨X + 1, 0, none⟩ = some (.int .i64 0) := by rw [(row_cell HB1.out 0).1]; rfl
  have y1 : W0.cell? ⟨X + 1, 1, none⟩ = some (.int .i64 0) := by rw [(row_cell HB1.out 1).1]; rfl
  have y2 : W0.cell? ⟨X + 1, 2, none⟩ = some (.int .i64 0) := by rw [(row_cell HB1.out 2).1]; rfl
  have y3 : W0.cell? ⟨X + 1, 3, none⟩ = some (.slice none 0 0) := by rw [(row_cell HB1.out 3).1]; rfl
  have y4 : W0.cell? ⟨X + 1, 4, none⟩ = some (.int .i64 0) := by rw [(row_cell HB1.out 4).1]; rfl
  have y5 : W0.cell? ⟨X + 1, 5, none⟩ = some (.int .i64 0) := by rw [(row_cell HB1.out 5).1]; rfl
  have yf0 : W0.frozen? ⟨X + 1, 0, none⟩ = false := (row_cell HB1.out 0).2
  have yf1 : W0.frozen? ⟨X + 1, 1, none⟩ = false := (row_cell HB1.out 1).2
  have yf2 : W0.frozen? ⟨X + 1, 2, none⟩ = false := (row_cell HB1.out 2).2
  have yf3 : W0.frozen? ⟨X + 1, 3, none⟩ = false := (row_cell HB1.out 3).2
  have yf4 : W0.frozen? ⟨X + 1, 4, none⟩ = false := (row_cell HB1.out 4).2
  have yf5 : W0.frozen? ⟨X + 1, 5, none⟩ = false := (row_cell HB1.out 5).2
  rw [hX]
  have hkb : decide (words < (nk : Int)) = false := by simpa using hk
  have hrb : decide (room ≤ (nr : Int)) = true := by simpa using hr
  clear hk hr
  go_enter Try.func29, Try.ntmps29
  go_wp2_with fail
  refine bodyPost_ret (results_cell_tmp rfl _ _ (X + 1) _ _ rfl (set_six HB1.out _ _ _ _ _ _) Try.underlying27 rfl (by kernel_rfl)) rfl ?_
  exact ⟨rfl, ((((((B0.out.setCell (by show X ≤ X + 1; omega) _).setCell (by show X ≤ X + 1; omega) _).setCell (by show X ≤ X + 1; omega) _).setCell (by show X ≤ X + 1; omega) _).setCell (by show X ≤ X + 1; omega) _).setCell (by show X ≤ X + 1; omega) _)⟩
set_option maxRecDepth 100000 in
set_option maxHeartbeats 8000000 in
theorem roffer_ok (gap words room next rl : Int) (Ar : Option Addr) (nr cr : Nat) (P RR PK : Nat → Prop) (S : List Sl) (LM : List (List Int)) (Ak : Option Addr) (nk ck : Nat) (K : List Int) (w : World) (hv : Sq w P (.slice Ar nr cr) nr (CS S)) (hm : Ms w RR S LM) (hml : nr ≤ 1000) (hkq : Sq w PK (.slice Ak nk ck) nk (CU K)) (hnk : nk ≤ 1000) (hk : ¬ words < (nk : Int)) (hr : ¬ room ≤ (nr : Int)) :
    Calls Try.prog 29 #[.agg #[.int .i64 gap, .int .i64 words, .int .i64 room, .slice Ar nr cr, .int .i64 next, .int .i64 rl], .slice Ak nk ck] w fun e w' => ∃ A' c' S', e = .returned (.tuple #[.agg #[.int .i64 gap, .int .i64 words, .int .i64 room, .slice A' (nr + 1) c', .int .i64 next, .int .i64 rl], .int .i64 0]) ∧ Ow 33 w' (fun b => w.heap.size ≤ b) (.slice A' (nr + 1) c') (nr + 1) (CS S') ∧ Ms w' (fun b => RR b ∨ w.heap.size ≤ b) S' (LM ++ [K]) ∧ Below w.heap.size w w' := by
  obtain ⟨i0, hi, hz0, hz1, hz2⟩ := info_of sl_info
  obtain ⟨i1, ji, jz0, jz1, jz2⟩ := info_of u32_info
  obtain ⟨X, hX⟩ : ∃ X, w.heap.size = X := ⟨_, rfl⟩
  obtain ⟨W0, hW0⟩ : ∃ W0, ((w.alloc (.cells #[.int .i64 gap, .int .i64 words, .int .i64 room, .slice Ar nr cr, .int .i64 next, .int .i64 rl] 27)).alloc (.cells #[.int .i64 0, .int .i64 0, .int .i64 0, .slice none 0 0, .int .i64 0, .int .i64 0] 27)) = W0 := ⟨_, rfl⟩
  have B0 : Hid (Below X w W0) := by rw [← hW0, ← hX]; exact (((Below.refl _ _).alloc (by first | exact Nat.le_refl _ | (simp; done) | (simp; omega)) _).alloc (by first | exact Nat.le_refl _ | (simp; done) | (simp; omega)) _)
  have S0 : Hid (W0.heap.size = X + 2) := by unfold Hid; rw [← hW0, ← hX]; simp
  have HB0 : Hid (W0.heap[X]? = some (.cells #[.int .i64 gap, .int .i64 words, .int .i64 room, .slice Ar nr cr, .int .i64 next, .int .i64 rl] 27 (0, 0))) := by
    have h0 := heap_alloc_new w (.cells #[.int .i64 gap, .int .i64 words, .int .i64 room, .slice Ar nr cr, .int .i64 next, .int .i64 rl] 27)
    unfold Hid
    rw [← hW0, ← hX]
    have h1 : (w.alloc (.cells #[.int .i64 gap, .int .i64 words, .int .i64 room, .slice Ar nr cr, .int .i64 next, .int .i64 rl] 27)).heap[w.heap.size]? = some (.cells #[.int .i64 gap, .int .i64 words, .int .i64 room, .slice Ar nr cr, .int .i64 next, .int .i64 rl] 27 (0, 0)) := by simpa using h0
    have h2 : ((w.alloc (.cells #[.int .i64 gap, .int .i64 words, .int .i64 room, .slice Ar nr cr, .int .i64 next, .int .i64 rl] 27)).alloc (.cells #[.int .i64 0, .int .i64 0, .int .i64 0, .slice none 0 0, .int .i64 0, .int .i64 0] 27)).heap[w.heap.size]? = some (.cells #[.int .i64 gap, .int .i64 words, .int .i64 room, .slice Ar nr cr, .int .i64 next, .int .i64 rl] 27 (0, 0)) := (heap_old _ _ (by simp)).trans h1
    exact h2
  have HB1 : Hid (W0.heap[X + 1]? = some (.cells #[.int .i64 0, .int .i64 0, .int .i64 0, .slice none 0 0, .int .i64 0, .int .i64 0] 27 (0, 0))) := by
    have h0 := heap_alloc_new (w.alloc (.cells #[.int .i64 gap, .int .i64 words, .int .i64 room, .slice Ar nr cr, .int .i64 next, .int .i64 rl] 27)) (.cells #[.int .i64 0, .int .i64 0, .int .i64 0, .slice none 0 0, .int .i64 0, .int .i64 0] 27)
    unfold Hid
    rw [← hW0, ← hX]
    have h1 : ((w.alloc (.cells #[.int .i64 gap, .int .i64 words, .int .i64 room, .slice Ar nr cr, .int .i64 next, .int .i64 rl] 27)).alloc (.cells #[.int .i64 0, .int .i64 0, .int .i64 0, .slice none 0 0, .int .i64 0, .int .i64 0] 27)).heap[w.heap.size + 1]? = some (.cells #[.int .i64 0, .int .i64 0, .int .i64 0, .slice none 0 0, .int .i64 0, .int .i64 0] 27 (0, 0)) := by simpa using h0
    exact h1
  have x0 : W0.cell? ⟨X, 0, none⟩ = some (.int .i64 gap) := by rw [(row_cell HB0.out 0).1]; rfl
  have x1 : W0.cell? ⟨X, 1, none⟩ = some (.int .i64 words) := by rw [(row_cell HB0.out 1).1]; rfl
  have x2 : W0.cell? ⟨X, 2, none⟩ = some (.int .i64 room) := by rw [(row_cell HB0.out 2).1]; rfl
  have x3 : W0.cell? ⟨X, 3, none⟩ = some (.slice Ar nr cr) := by rw [(row_cell HB0.out 3).1]; rfl
  have x4 : W0.cell? ⟨X, 4, none⟩ = some (.int .i64 next) := by rw [(row_cell HB0.out 4).1]; rfl
  have x5 : W0.cell? ⟨X, 5, none⟩ = some (.int .i64 rl) := by rw [(row_cell HB0.out 5).1]; rfl
  have xf0 : W0.frozen? ⟨X, 0, none⟩ = false := (row_cell HB0.out 0).2
  have xf1 : W0.frozen? ⟨X, 1, none⟩ = false := (row_cell HB0.out 1).2
  have xf2 : W0.frozen? ⟨X, 2, none⟩ = false := (row_cell HB0.out 2).2
  have xf3 : W0.frozen? ⟨X, 3, none⟩ = false := (row_cell HB0.out 3).2
  have xf4 : W0.frozen? ⟨X, 4, none⟩ = false := (row_cell HB0.out 4).2
  have xf5 : W0.frozen? ⟨X, 5, none⟩ = false := (row_cell HB0.out 5).2
  have y0 : W0.cell? ⟨X + 1, 0, none⟩ = some (.int .i64 0) := by rw [(row_cell HB1.out 0).1]; rfl
  have y1 : W0.cell? ⟨X + 1, 1, none⟩ = some (.int .i64 0) := by rw [(row_cell HB1.out 1).1]; rfl
  have y2 : W0.cell? ⟨X + 1, 2, none⟩ = some (.int .i64 0) := by rw [(row_cell HB1.out 2).1]; rfl
  have y3 : W0.cell? ⟨X + 1, 3, none⟩ = some (.slice none 0 0) := by rw [(row_cell HB1.out 3).1]; rfl
  have y4 : W0.cell? ⟨X + 1, 4, none⟩ = some (.int .i64 0) := by rw [(row_cell HB1.out 4).1]; rfl
  have y5 : W0.cell? ⟨X + 1, 5, none⟩ = some (.int .i64 0) := by rw [(row_cell HB1.out 5).1]; rfl
  have yf0 : W0.frozen? ⟨X + 1, 0, none⟩ = false := (row_cell HB1.out 0).2
  have yf1 : W0.frozen? ⟨X + 1, 1, none⟩ = false := (row_cell HB1.out 1).2
  have yf2 : W0.frozen? ⟨X + 1, 2, none⟩ = false := (row_cell HB1.out 2).2
  have yf3 : W0.frozen? ⟨X + 1, 3, none⟩ = false := (row_cell HB1.out 3).2
  have yf4 : W0.frozen? ⟨X + 1, 4, none⟩ = false := (row_cell HB1.out 4).2
  have yf5 : W0.frozen? ⟨X + 1, 5, none⟩ = false := (row_cell HB1.out 5).2
  rw [hX]
  have hkb : decide (words < (nk : Int)) = false := by simpa using hk
  have hrb : decide (room ≤ (nr : Int)) = false := by simpa using hr
  have HN : Hid (nr ≤ 1000 ∧ nk ≤ 1000 ∧ K.length = nk) := ⟨hml, hnk, by have := hkq.len; simpa [CU] using this⟩
  have hWB : Below w.heap.size w W0 := by rw [hX]; exact B0.out
  have RD : Hid (Reads W0 W0.heap.size 1 Ar nr (CS S)) := ((hv.belowP hWB).st.reads).2
  have RK : Hid (Reads W0 W0.heap.size 1 Ak nk (CU K)) := ((hkq.belowP hWB).st.reads).2
  have HM : Hid (Ms W0 RR S LM) := hm.below hWB
  have Z0 : Hid ((W0.alloc (.cells #[] 33)).ownsRow W0.heap.size 33 1 (.slice (some ⟨W0.heap.size, 0, none⟩) 0 0) 0 []) := ⟨rfl, .inr ⟨W0.heap.size, 0, #[], rfl, Nat.le_refl _, heap_alloc_new W0 _, Nat.le_refl _, by unfold maxLen; omega, rfl, rfl⟩⟩
  clear hk hr hv hm hml hkq hnk hWB
  have x3a : (W0.alloc (.cells #[] 33)).cell? ⟨X, 3, none⟩ = some (.slice Ar nr cr) := cell_al _ x3
  go_enter Try.func29, Try.ntmps29
  go_wp2_with (at_builtin; refine wpList_append_any _ rfl (.tmp 19) (.tmp 21) _ rfl W0.heap.size 33 i0 (.slice none 0 0) 1 24 Try.underlying25 hi hz0 hz1 hz2 rfl (by omega) (.slice (some ⟨W0.heap.size, 0, none⟩) 0 0) 0 [] rfl Z0.out W0.heap.size Ar nr cr (CS S) rfl (RD.out.alloc (Nat.le_refl _) _) (CS_one _) ?d2 ?d3 ?d4 ?_)
  case d2 => have := HN.out; unfold maxLen; omega
  case d3 => have := HN.out; omega
  case d4 => simp
  intro v1 w1 ho1 hg1 hb1
  have r1 : w1.ownsRow W0.heap.size 33 1 v1 nr (CS S) := by simpa using ho1
  have b1 : Below W0.heap.size W0 w1 := ((Below.refl _ _).alloc (Nat.le_refl _) _).grown hg1 (by simp) (fun q hq => by have h' : some W0.heap.size = some q := hq; injection h' with h'; omega)
  obtain ⟨A1, c1, rfl⟩ := slice_form r1
  have O1 : Hid (Ow 33 w1 (fun b => W0.heap.size ≤ b) (.slice A1 nr c1) nr (CS S)) := Ow.of_own r1
  have B1 : Hid (Below W0.heap.size W0 w1) := b1
  have RK1 : Hid (Reads w1 w1.heap.size 1 Ak nk (CU K)) := (RK.out.below b1).more b1.size
  have M1 : Hid (Ms w1 RR S LM) := HM.out.below b1
  have Z1 := Lib.hid (rowU_new w1)
  clear r1 b1 ho1 hg1 hb1 RD Z0 x3a
  go_wp2_with (at_builtin; refine wpList_append_any _ rfl (.tmp 23) (.tmp 24) _ rfl w1.heap.size 47 i1 (.int .u32 0) 1 4 Try.underlying33 ji jz0 jz1 jz2 rfl (by omega) (.slice (some ⟨w1.heap.size, 0, none⟩) 0 0) 0 [] rfl Z1.out w1.heap.size Ak nk ck (CU K) rfl (RK1.out.alloc (Nat.le_refl _) _) (CU_one _) ?e2 ?e3 ?e4 ?_)
  case e2 => have := HN.out; unfold maxLen; omega
  case e3 => have := HN.out; omega
  case e4 => simp
  intro v2 w2 ho2 hg2 hb2
  have r2 : w2.ownsRow w1.heap.size 47 1 v2 nk (CU K) := by simpa using ho2
  have b2 : Below w1.heap.size w1 w2 := ((Below.refl _ _).alloc (Nat.le_refl _) _).grown hg2 (by simp) (fun q hq => by have h' : some w1.heap.size = some q := hq; injection h' with h'; omega)
  obtain ⟨A2, c2, rfl⟩ := slice_form r2
  have hx : Below w2.heap.size w2 (w2.alloc (.cells #[.slice A2 nk c2] 33)) := (Below.refl _ _).alloc (Nat.le_refl _) _
  have HSZ : Hid (X + 2 = W0.heap.size ∧ W0.heap.size ≤ w1.heap.size ∧ w1.heap.size ≤ w2.heap.size) := ⟨S0.out.symm, B1.out.size, b2.size⟩
  have N2 : Hid (Ow 47 (w2.alloc (.cells #[.slice A2 nk c2] 33)) (fun b => X ≤ b) (.slice A2 nk c2) nk (CU K)) := ((Ow.of_own r2).below hx).imp fun b _ hb => by have := HSZ.out; omega
  have O2 : Hid (Ow 33 (w2.alloc (.cells #[.slice A2 nk c2] 33)) (fun b => X + 2 ≤ b) (.slice A1 nr c1) nr (CS S)) := ((O1.out.below b2).below hx).imp fun b _ hb => by have := HSZ.out; omega
  have M2 : Hid (Ms (w2.alloc (.cells #[.slice A2 nk c2] 33)) RR S LM) := (M1.out.below b2).below hx
  have B2 : Hid (Below (X + 2) W0 (w2.alloc (.cells #[.slice A2 nk c2] 33))) := by
    rw [HSZ.out.1]
    exact B1.out.trans ((b2.trans (hx.mono b2.size)).mono B1.out.size)
  have RD2 := Lib.hid (one_row (w := w2) (.slice A2 nk c2) 33)
  clear r2 b2 ho2 hg2 hb2 RK RK1 Z1 hx O1 M1 B1
  go_wp2_with (at_builtin; refine wpList_append_any _ rfl (.tmp 22) (.tmp 26) 25 rfl 0 33 i0 (.slice none 0 0) 1 24 Try.underlying25 hi hz0 hz1 hz2 rfl (by decide) _ _ _ rfl O2.out.own (w2.heap.size + 1) (some ⟨w2.heap.size, 0, none⟩) 1 1 [.slice A2 nk c2] rfl RD2.out ?f2 ?f3 ?f4 ?f5 ?_)
  case f2 => intro u hu; simp at hu; subst hu; rfl
  case f3 => have := HN.out; unfold maxLen; omega
  case f4 => have := HN.out; omega
  case f5 => omega
  intro v3 w5 hown hgrow hblk
  have G := O2.out.grow hown hgrow (by simpa using hblk)
  have O5 : Hid (Ow 33 w5 (fun b => X + 2 ≤ b) v3 (nr + 1) (CS (S ++ [(A2, nk, c2)]))) := by
    have h1 := G.1.imp (q := fun b => X + 2 ≤ b) fun b _ hb => by
      rcases hb with hb | hb
      · exact hb
      · have := HSZ.out; simp at hb; omega
    unfold Hid
    rw [CS_app]; exact h1
  have hty : Ty (w2.alloc (.cells #[.slice A2 nk c2] 33)) (fun b => (Value.slice A1 nr c1).ownBlock = some b) := O2.out.tyb
  have hfo : Fo (fun b => (Value.slice A1 nr c1).ownBlock = some b) (w2.alloc (.cells #[.slice A2 nk c2] 33)) w5 := ⟨hgrow.os, hgrow.tape, hgrow.output, hgrow.size, fun k hk hn => hgrow.block k hk (fun e => hn e.symm)⟩
  have M5 : Hid (Ms w5 (fun b => RR b ∨ X ≤ b) (S ++ [(A2, nk, c2)]) (LM ++ [K])) := by
    have hn : Ow 47 (w2.alloc (.cells #[.slice A2 nk c2] 33)) (fun b => RR b ∨ X ≤ b) (slv (A2, nk, c2)) K.length (CU K) := by rw [HN.out.2.2]; exact N2.out.imp fun b _ hb => .inr hb
    exact ((M2.out.imp fun b _ hb => Or.inl hb).app (Ms.one hn)).fot hfo hty
  have B5 : Hid (Below (X + 2) W0 w5) := B2.out.trans (G.2.below (fun b hb => hb) (by have := HSZ.out; simp; omega))
  obtain ⟨A3, c3, rfl⟩ := O5.out.sl
  clear hown hgrow hblk G hty hfo O2 M2 N2 RD2 B2
  have X5 : Hid (w5.heap[X]? = some (.cells #[.int .i64 gap, .int .i64 words, .int .i64 room, .slice Ar nr cr, .int .i64 next, .int .i64 rl] 27 (0, 0))) := (B5.out.block X (by omega)).trans HB0.out
  have Y5 : Hid (w5.heap[X + 1]? = some (.cells #[.int .i64 0, .int .i64 0, .int .i64 0, .slice none 0 0, .int .i64 0, .int .i64 0] 27 (0, 0))) := (B5.out.block (X + 1) (by omega)).trans HB1.out
  obtain ⟨W3, hW3⟩ : ∃ W3, w5.setCell ⟨X, 3, none⟩ (.slice A3 (nr + 1) c3) = W3 := ⟨_, rfl⟩
  have X3 : Hid (W3.heap[X]? = some (.cells #[.int .i64 gap, .int .i64 words, .int .i64 room, .slice A3 (nr + 1) c3, .int .i64 next, .int .i64 rl] 27 (0, 0))) := by rw [← hW3]; exact set_at X5.out 3 _
  have Y3 : Hid (W3.heap[X + 1]? = some (.cells #[.int .i64 0, .int .i64 0, .int .i64 0, .slice none 0 0, .int .i64 0, .int .i64 0] 27 (0, 0))) := by rw [← hW3]; exact (set_far 3 _ (by omega)).trans Y5.out
  have B3 : Hid (Below X w W3) := by rw [← hW3]; exact (B0.out.trans (B5.out.mono (by omega))).setCell (Nat.le_refl _) _
  have hf3 : Fo (fun b => b = X ∨ b = X + 1) w5 W3 := by rw [← hW3]; exact (Fo.refl _ _).setCell (.inl (.inl rfl)) 3 _
  have hty5 : Ty w5 (fun b => b = X ∨ b = X + 1) := fun b hb _ => by
    rcases hb with rfl | rfl
    · exact ⟨_, _, _, X5.out, by decide⟩
    · exact ⟨_, _, _, Y5.out, by decide⟩
  have O3 : Hid (Ow 33 W3 (fun b => X + 2 ≤ b) (.slice A3 (nr + 1) c3) (nr + 1) (CS (S ++ [(A2, nk, c2)]))) := O5.out.fo hf3 (fun b hb e => by omega)
  have M3 : Hid (Ms W3 (fun b => RR b ∨ X ≤ b) (S ++ [(A2, nk, c2)]) (LM ++ [K])) := M5.out.fot hf3 hty5
  clear hf3 hty5 x0 x1 x2 x3 x4 x5 xf0 xf1 xf2 xf3 xf4 xf5 y0 y1 y2 y3 y4 y5 yf0 yf1 yf2 yf3 yf4 yf5
  have p0 : w5.cell? ⟨X, 0, none⟩ = some (.int .i64 gap) := by rw [(row_cell X5.out 0).1]; rfl
  have p1 : w5.cell? ⟨X, 1, none⟩ = some (.int .i64 words) := by rw [(row_cell X5.out 1).1]; rfl
  have p2 : w5.cell? ⟨X, 2, none⟩ = some (.int .i64 room) := by rw [(row_cell X5.out 2).1]; rfl
  have p3 : w5.cell? ⟨X, 3, none⟩ = some (.slice Ar nr cr) := by rw [(row_cell X5.out 3).1]; rfl
  have p4 : w5.cell? ⟨X, 4, none⟩ = some (.int .i64 next) := by rw [(row_cell X5.out 4).1]; rfl
  have p5 : w5.cell? ⟨X, 5, none⟩ = some (.int .i64 rl) := by rw [(row_cell X5.out 5).1]; rfl
  have pf3 : w5.frozen? ⟨X, 3, none⟩ = false := (row_cell X5.out 3).2
  have r0 : W3.cell? ⟨X, 0, none⟩ = some (.int .i64 gap) := by rw [(row_cell X3.out 0).1]; rfl
  have r1 : W3.cell? ⟨X, 1, none⟩ = some (.int .i64 words) := by rw [(row_cell X3.out 1).1]; rfl
  have r2 : W3.cell? ⟨X, 2, none⟩ = some (.int .i64 room) := by rw [(row_cell X3.out 2).1]; rfl
  have r3 : W3.cell? ⟨X, 3, none⟩ = some (.slice A3 (nr + 1) c3) := by rw [(row_cell X3.out 3).1]; rfl
  have r4 : W3.cell? ⟨X, 4, none⟩ = some (.int .i64 next) := by rw [(row_cell X3.out 4).1]; rfl
  have r5 : W3.cell? ⟨X, 5, none⟩ = some (.int .i64 rl) := by rw [(row_cell X3.out 5).1]; rfl
  have s0 : W3.cell? ⟨X + 1, 0, none⟩ = some (.int .i64 0) := by rw [(row_cell Y3.out 0).1]; rfl
  have s1 : W3.cell? ⟨X + 1, 1, none⟩ = some (.int .i64 0) := by rw [(row_cell Y3.out 1).1]; rfl
  have s2 : W3.cell? ⟨X + 1, 2, none⟩ = some (.int .i64 0) := by rw [(row_cell Y3.out 2).1]; rfl
  have s3 : W3.cell? ⟨X + 1, 3, none⟩ = some (.slice none 0 0) := by rw [(row_cell Y3.out 3).1]; rfl
  have s4 : W3.cell? ⟨X + 1, 4, none⟩ = some (.int .i64 0) := by rw [(row_cell Y3.out 4).1]; rfl
  have s5 : W3.cell? ⟨X + 1, 5, none⟩ = some (.int .i64 0) := by rw [(row_cell Y3.out 5).1]; rfl
  have sf0 : W3.frozen? ⟨X + 1, 0, none⟩ = false := (row_cell Y3.out 0).2
  have sf1 : W3.frozen? ⟨X + 1, 1, none⟩ = false := (row_cell Y3.out 1).2
  have sf2 : W3.frozen? ⟨X + 1, 2, none⟩ = false := (row_cell Y3.out 2).2
  have sf3 : W3.frozen? ⟨X + 1, 3, none⟩ = false := (row_cell Y3.out 3).2
  have sf4 : W3.frozen? ⟨X + 1, 4, none⟩ = false := (row_cell Y3.out 4).2
  have sf5 : W3.frozen? ⟨X + 1, 5, none⟩ = false := (row_cell Y3.out 5).2
  go_wp2_with fail
  refine bodyPost_ret (results_cell_tmp rfl _ _ (X + 1) _ _ rfl (set_six Y3.out _ _ _ _ _ _) Try.underlying27 rfl (by kernel_rfl)) rfl ?_
  have hty3 : Ty W3 (fun b => b = X ∨ b = X + 1) := fun b hb _ => by
    rcases hb with rfl | rfl
    · exact ⟨_, _, _, X3.out, by decide⟩
    · exact ⟨_, _, _, Y3.out, by decide⟩
  have hf : Fo (fun b => b = X ∨ b = X + 1) W3 ((((((W3.setCell ⟨X + 1, 0, none⟩ (.int .i64 gap)).setCell ⟨X + 1, 1, none⟩ (.int .i64 words)).setCell ⟨X + 1, 2, none⟩ (.int .i64 room)).setCell ⟨X + 1, 3, none⟩ (.slice A3 (nr + 1) c3)).setCell ⟨X + 1, 4, none⟩ (.int .i64 next)).setCell ⟨X + 1, 5, none⟩ (.int .i64 rl)) := ((((((Fo.refl _ W3).setCell (.inl (.inr rfl)) 0 _).setCell (.inl (.inr rfl)) 1 _).setCell (.inl (.inr rfl)) 2 _).setCell (.inl (.inr rfl)) 3 _).setCell (.inl (.inr rfl)) 4 _).setCell (.inl (.inr rfl)) 5 _
  refine ⟨A3, c3, S ++ [(A2, nk, c2)], rfl, ?_, M3.out.fot hf hty3, ((((((B3.out.setCell (by show X ≤ X + 1; omega) _).setCell (by show X ≤ X + 1; omega) _).setCell (by show X ≤ X + 1; omega) _).setCell (by show X ≤ X + 1; omega) _).setCell (by show X ≤ X + 1; omega) _).setCell (by show X ≤ X + 1; omega) _)⟩
  exact (O3.out.fo hf (fun b hb e => by omega)).imp fun b _ hb => by omega
end Go.Proofs.Ytkbjonblflhkoaa.Ln
