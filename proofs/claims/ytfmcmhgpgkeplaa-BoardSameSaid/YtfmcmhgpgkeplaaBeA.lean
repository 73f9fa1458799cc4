/-
  What the reference answers: Equal, Same. Each statement bears its own conditions.
-/
import Derived.Test.YtfmcmhgpgkeplaaBdN
namespace Go.Proofs.Ytfmcmhgpgkeplaa.B
open Go.RowKit Go.Proofs.Ytfmcmhgpgkeplaa.F Go.Proofs.Ytfmcmhgpgkeplaa.I Go.Proofs.Ytfmcmhgpgkeplaa.U
set_option linter.unusedVariables false
set_option linter.unusedSimpArgs false
set_option maxRecDepth 100000 in
set_option maxHeartbeats 4000000 in
theorem requal_any (g g' : Nat) (v v' : Value) (a b : List Int) (w : World) (h : St g w 1 v a.length (CU a)) (h' : St g' w 1 v' b.length (CU b)) (hm : a.length ≤ 5000) :
    Calls Try.prog 33 #[v, v'] w fun e w' => e = .returned (.bool (decide (a = b))) ∧ Below w.heap.size w w' := by
  obtain ⟨A, c, rfl⟩ := h.form
  obtain ⟨A', c', rfl⟩ := h'.form
  obtain ⟨n, hn⟩ : ∃ n, a.length = n := ⟨_, rfl⟩
  obtain ⟨m, hn'⟩ : ∃ m, b.length = m := ⟨_, rfl⟩
  obtain ⟨t, ht⟩ : ∃ t, decide (a = b) = t := ⟨_, rfl⟩
  rw [hn] at h hm ⊢
  rw [hn'] at h' ⊢
  rw [ht]
  have HN := Lib.hid hn
  have HN' := Lib.hid hn'
  have HT := Lib.hid ht
  have H := Lib.hid h
  have H' := Lib.hid h'
  clear hn hn' h h' ht
  by_cases hnm : n = m
  · subst hnm
    go_enter Try.func33, Try.ntmps33
    go_wp2_with fail
    go_loopw [5] (fun v wr => EqRel n a b w v wr) (fun v => fun _ => n - (intOf v).toNat)
    case atStart => exact ⟨⟨0, Nat.zero_le _, rfl, fun j hj => by omega, Below.refl _ _⟩⟩
    case round =>
      obtain ⟨⟨k, hk, rfl, hall, hb⟩⟩ := hrel
      have HK := Lib.hid hk
      have HA := Lib.hid hall
      have HB := Lib.hid hb
      clear hk hall hb
      by_cases hlt : k < n
      · have hkI : (k : Int) < (n : Int) := by omega
        have HX : Hid (k < n) := hlt
        obtain ⟨_, q, off, rfl, hbl, hg, hc⟩ := H.out.at_ hlt
        obtain ⟨_, q', off', rfl, hbl', hg', hc'⟩ := H'.out.at_ hlt
        obtain ⟨x, hx⟩ : ∃ x, a[k]? = some x := ⟨_, List.getElem?_eq_getElem (by have := HN.out; omega)⟩
        obtain ⟨y, hy⟩ : ∃ y, b[k]? = some y := ⟨_, List.getElem?_eq_getElem (by have := HN'.out; omega)⟩
        have HXS := Lib.hid hx
        have HYS := Lib.hid hy
        have d0 : wr.cell? ⟨q, off + k, none⟩ = some (.int .u32 x) := cell_later HB.out (hc k _ (CU_at hx))
        have e0 : wr.cell? ⟨q', off' + k, none⟩ = some (.int .u32 y) := cell_later HB.out (hc' k _ (CU_at hy))
        clear hc hc' hbl hbl' hg hg' hx hy hlt
        by_cases hxy : x = y
        · subst hxy
          have HE : Hid (a[k]? = b[k]?) := HXS.out.trans HYS.out.symm
          go_wp2_with fail
          refine wp_region_held_drew (S := (fun w' => Below w.heap.size w w' ∧ w'.cell? ⟨q, off + k, none⟩ = some (.int .u32 x) ∧ w'.cell? ⟨q', off' + k, none⟩ = some (.int .u32 x))) (by kernel_rfl) ?_ (fun hHeld => ?_)
          · exact ⟨below_drewN HB.out 1, d0, e0⟩
          refine takeD (i := 0) (d := some 17) (v := ?_) _ rfl rfl (by kernel_rfl) (by kernel_rfl) (by kernel_rfl) (fun _ _ _ h => h) (by rfl) ?_ (by assumption) ?_
          rotate_left
          · (intro w hSw; (try dsimp only at hSw); go_simp) <;> with_reducible rfl
          try simp only [Act.put, List.setIfInBounds_toArray, List.set_cons_zero, List.set_cons_succ]
          refine takeD (i := 1) (d := some 18) (v := ?_) _ rfl rfl (by kernel_rfl) (by kernel_rfl) (by kernel_rfl) (fun _ _ _ h => h) (by rfl) ?_ (by assumption) ?_
          rotate_left
          · (intro w hSw; (try dsimp only at hSw); go_simp) <;> with_reducible rfl
          try simp only [Act.put, List.setIfInBounds_toArray, List.set_cons_zero, List.set_cons_succ]
          refine takeD (i := 2) (d := some 19) (v := ?_) _ rfl rfl (by kernel_rfl) (by kernel_rfl) (by kernel_rfl) (fun _ _ _ h => h) (by rfl) ?_ (by assumption) ?_
          rotate_left
          · (intro w hSw; (try dsimp only at hSw); go_simp) <;> with_reducible rfl
          try simp only [Act.put, List.setIfInBounds_toArray, List.set_cons_zero, List.set_cons_succ]
          refine takeD (i := 3) (d := some 20) (v := ?_) _ rfl rfl (by kernel_rfl) (by kernel_rfl) (by kernel_rfl) (fun _ _ _ h => h) (by rfl) ?_ (by assumption) ?_
          rotate_left
          · (intro w hSw; (try dsimp only at hSw); go_simp) <;> with_reducible rfl
          try simp only [Act.put, List.setIfInBounds_toArray, List.set_cons_zero, List.set_cons_succ]
          refine takeD (i := 4) (d := some 21) (v := ?_) _ rfl rfl (by kernel_rfl) (by kernel_rfl) (by kernel_rfl) (fun _ _ _ h => h) (by rfl) ?_ (by assumption) ?_
          rotate_left
          · (intro w hSw; (try dsimp only at hSw); go_simp) <;> with_reducible rfl
          try simp only [Act.put, List.setIfInBounds_toArray, List.set_cons_zero, List.set_cons_succ]
          refine takeD (i := 5) (d := some 22) (v := ?_) _ rfl rfl (by kernel_rfl) (by kernel_rfl) (by kernel_rfl) (fun _ _ _ h => h) (by rfl) ?_ (by assumption) ?_
          rotate_left
          · (intro w hSw; (try dsimp only at hSw); go_simp) <;> with_reducible rfl
          try simp only [Act.put, List.setIfInBounds_toArray, List.set_cons_zero, List.set_cons_succ]
          refine takeD (i := 6) (d := some 23) (v := ?_) _ rfl rfl (by kernel_rfl) (by kernel_rfl) (by kernel_rfl) (fun _ _ _ h => h) (by rfl) ?_ (by assumption) ?_
          rotate_left
          · (intro w hSw; (try dsimp only at hSw); go_simp) <;> with_reducible rfl
          try simp only [Act.put, List.setIfInBounds_toArray, List.set_cons_zero, List.set_cons_succ]
          refine takeD (i := 7) (d := some 24) (v := ?_) _ rfl rfl (by kernel_rfl) (by kernel_rfl) (by kernel_rfl) (fun _ _ _ h => h) (by rfl) ?_ (by assumption) ?_
          rotate_left
          · (intro w hSw; (try dsimp only at hSw); go_simp) <;> with_reducible rfl
          try simp only [Act.put, List.setIfInBounds_toArray, List.set_cons_zero, List.set_cons_succ]
          refine takeD (i := 8) (d := some 25) (v := ?_) _ rfl rfl (by kernel_rfl) (by kernel_rfl) (by kernel_rfl) (fun _ _ _ h => h) (by rfl) ?_ (by assumption) ?_
          rotate_left
          · (intro w hSw; (try dsimp only at hSw); go_simp) <;> with_reducible rfl
          try simp only [Act.put, List.setIfInBounds_toArray, List.set_cons_zero, List.set_cons_succ]
          refine wpAnyH_done (by kernel_rfl) ?_ _
          have HB1 := Lib.hid hHeld.1
          clear hHeld d0 e0
          go_wp2_with fail
          go_roundw
          case rel =>
            have Q : EqRel n a b w (.int .i64 ((k : Int) + 1)) wr.drew := EqRel.next HX.out HA.out HE.out HB1.out
            first | exact Q | ((repeat apply Exists.intro); exact ⟨Q, rfl⟩)
          case measure => have := HX.out; simp [intOf]; omega
        · have HF : Hid (t = false) := by
            unfold Hid
            rw [← HT.out, decide_eq_false_iff_not]
            intro hab
            rw [hab, HYS.out] at HXS
            have := HXS.out
            injection this with this
            exact hxy this.symm
          have hxb : (x == y) = false := by simpa using hxy
          have hxc : (x != y) = true := by simpa using hxy
          go_wp2_with fail
          refine wp_region_held_drew (S := (fun w' => Below w.heap.size w w' ∧ w'.cell? ⟨q, off + k, none⟩ = some (.int .u32 x) ∧ w'.cell? ⟨q', off' + k, none⟩ = some (.int .u32 y))) (by kernel_rfl) ?_ (fun hHeld => ?_)
          · exact ⟨below_drewN HB.out 1, d0, e0⟩
          refine takeD (i := 0) (d := some 17) (v := ?_) _ rfl rfl (by kernel_rfl) (by kernel_rfl) (by kernel_rfl) (fun _ _ _ h => h) (by rfl) ?_ (by assumption) ?_
          rotate_left
          · (intro w hSw; (try dsimp only at hSw); go_simp) <;> with_reducible rfl
          try simp only [Act.put, List.setIfInBounds_toArray, List.set_cons_zero, List.set_cons_succ]
          refine takeD (i := 1) (d := some 18) (v := ?_) _ rfl rfl (by kernel_rfl) (by kernel_rfl) (by kernel_rfl) (fun _ _ _ h => h) (by rfl) ?_ (by assumption) ?_
          rotate_left
          · (intro w hSw; (try dsimp only at hSw); go_simp) <;> with_reducible rfl
          try simp only [Act.put, List.setIfInBounds_toArray, List.set_cons_zero, List.set_cons_succ]
          refine takeD (i := 2) (d := some 19) (v := ?_) _ rfl rfl (by kernel_rfl) (by kernel_rfl) (by kernel_rfl) (fun _ _ _ h => h) (by rfl) ?_ (by assumption) ?_
          rotate_left
          · (intro w hSw; (try dsimp only at hSw); go_simp) <;> with_reducible rfl
          try simp only [Act.put, List.setIfInBounds_toArray, List.set_cons_zero, List.set_cons_succ]
          refine takeD (i := 3) (d := some 20) (v := ?_) _ rfl rfl (by kernel_rfl) (by kernel_rfl) (by kernel_rfl) (fun _ _ _ h => h) (by rfl) ?_ (by assumption) ?_
          rotate_left
          · (intro w hSw; (try dsimp only at hSw); go_simp) <;> with_reducible rfl
          try simp only [Act.put, List.setIfInBounds_toArray, List.set_cons_zero, List.set_cons_succ]
          refine takeD (i := 4) (d := some 21) (v := ?_) _ rfl rfl (by kernel_rfl) (by kernel_rfl) (by kernel_rfl) (fun _ _ _ h => h) (by rfl) ?_ (by assumption) ?_
          rotate_left
          · (intro w hSw; (try dsimp only at hSw); go_simp) <;> with_reducible rfl
          try simp only [Act.put, List.setIfInBounds_toArray, List.set_cons_zero, List.set_cons_succ]
          refine takeD (i := 5) (d := some 22) (v := ?_) _ rfl rfl (by kernel_rfl) (by kernel_rfl) (by kernel_rfl) (fun _ _ _ h => h) (by rfl) ?_ (by assumption) ?_
          rotate_left
          · (intro w hSw; (try dsimp only at hSw); go_simp) <;> with_reducible rfl
          try simp only [Act.put, List.setIfInBounds_toArray, List.set_cons_zero, List.set_cons_succ]
          refine takeD (i := 6) (d := some 23) (v := ?_) _ rfl rfl (by kernel_rfl) (by kernel_rfl) (by kernel_rfl) (fun _ _ _ h => h) (by rfl) ?_ (by assumption) ?_
          rotate_left
          · (intro w hSw; (try dsimp only at hSw); go_simp) <;> with_reducible rfl
          try simp only [Act.put, List.setIfInBounds_toArray, List.set_cons_zero, List.set_cons_succ]
          refine takeD (i := 7) (d := some 24) (v := ?_) _ rfl rfl (by kernel_rfl) (by kernel_rfl) (by kernel_rfl) (fun _ _ _ h => h) (by rfl) ?_ (by assumption) ?_
          rotate_left
          · (intro w hSw; (try dsimp only at hSw); go_simp) <;> with_reducible rfl
          try simp only [Act.put, List.setIfInBounds_toArray, List.set_cons_zero, List.set_cons_succ]
          refine takeD (i := 8) (d := some 25) (v := ?_) _ rfl rfl (by kernel_rfl) (by kernel_rfl) (by kernel_rfl) (fun _ _ _ h => h) (by rfl) ?_ (by assumption) ?_
          rotate_left
          · (intro w hSw; (try dsimp only at hSw); go_simp) <;> with_reducible rfl
          try simp only [Act.put, List.setIfInBounds_toArray, List.set_cons_zero, List.set_cons_succ]
          refine wpAnyH_done (by kernel_rfl) ?_ _
          have HB1 := Lib.hid hHeld.1
          clear hHeld d0 e0
          go_wp2_with fail
          go_ret
          exact ⟨by rw [HF.out]; rfl, HB1.out⟩
      · have hkn : k = n := by have := HK.out; omega
        subst hkn
        have HF : Hid (t = true) := by
          unfold Hid
          rw [← HT.out, decide_eq_true_eq]
          exact eq_of_all HN.out HN'.out HA.out
        clear hlt
        go_wp2_with fail
        go_ret
        exact ⟨by rw [HF.out]; rfl, HB.out⟩
  · have HF : Hid (t = false) := by
      unfold Hid
      rw [← HT.out, decide_eq_false_iff_not]
      intro hab
      exact hnm (by rw [← HN.out, ← HN'.out, hab])
    have hnmB : ((n : Int) == (m : Int)) = false := by rw [beq_eq_false_iff_ne]; omega
    have hnmC : ((n : Int) != (m : Int)) = true := by rw [bne_iff_ne]; omega
    go_enter Try.func33, Try.ntmps33
    go_wp2_with fail
    go_ret
    exact ⟨by rw [HF.out]; rfl, Below.refl _ _⟩
structure SmR (n : Nat) (L L' : List Int) (W0 : World) (iv : Value) (wr : World) : Prop where
  ex : ∃ j : Nat, j ≤ n ∧ iv = .int .i64 (j : Int) ∧ (∀ k, k < j → L[k]? = L'[k]?) ∧ Below W0.heap.size W0 wr
set_option maxRecDepth 100000 in
set_option maxHeartbeats 8000000 in
theorem rsame_any (p p' : Nat → Prop) (n n' : Int) (Am Am' : Option Addr) (nm nm' cm cm' : Nat) (is is' : Bool) (Al Al' : Option Addr) (nl nl' cl cl' : Nat) (M M' L L' : List Int) (w : World)
    (hm : Sq w p (.slice Am nm cm) nm (CU M)) (hm' : Sq w p' (.slice Am' nm' cm') nm' (CU M')) (hl : Sq w p (.slice Al nl cl) nl (C L)) (hl' : Sq w p' (.slice Al' nl' cl') nl' (C L')) (h5 : M.length ≤ 5000) (h9 : L.length ≤ 900) :
    Calls Try.prog 29 #[.agg #[.int .i64 n, .slice Am nm cm, .bool is, .slice Al nl cl], .agg #[.int .i64 n', .slice Am' nm' cm', .bool is', .slice Al' nl' cl']] w fun e w' => e = .returned (.bool (decide (n = n') && decide (is = is') && decide (M = M') && decide (L = L'))) ∧ Below w.heap.size w w' := by
  have hkm : M.length = nm := by have := hm.len; simpa [CU] using this
  have hkm' : M'.length = nm' := by have := hm'.len; simpa [CU] using this
  have hkl : L.length = nl := by have := hl.len; simpa [C] using this
  have hkl' : L'.length = nl' := by have := hl'.len; simpa [C] using this
  obtain ⟨X, hX⟩ : ∃ X, w.heap.size = X := ⟨_, rfl⟩
  obtain ⟨W0, hW0⟩ : ∃ W0, (w.alloc (.cells #[.int .i64 n, .slice Am nm cm, .bool is, .slice Al nl cl] 31)).alloc (.cells #[.int .i64 n', .slice Am' nm' cm', .bool is', .slice Al' nl' cl'] 31) = W0 := ⟨_, rfl⟩
  have B0 : Hid (Below X w W0) := by rw [← hW0, ← hX]; exact (((Below.refl _ _).alloc (Nat.le_refl _) _).alloc (by simp) _)
  have HX : Hid (W0.heap[X]? = some (.cells #[.int .i64 n, .slice Am nm cm, .bool is, .slice Al nl cl] 31 (0, 0))) := by
    rw [← hW0, ← hX]; exact (((Below.refl _ _).alloc (Nat.le_refl _) _).block _ (by simp)).trans (heap_alloc_new _ _)
  have HY : Hid (W0.heap[X + 1]? = some (.cells #[.int .i64 n', .slice Am' nm' cm', .bool is', .slice Al' nl' cl'] 31 (0, 0))) := by
    rw [← hW0, ← hX]; have := heap_alloc_new (w.alloc (.cells #[.int .i64 n, .slice Am nm cm, .bool is, .slice Al nl cl] 31)) (.cells #[.int .i64 n', .slice Am' nm' cm', .bool is', .slice Al' nl' cl'] 31); unfold Hid; simpa using this
  have x0 : W0.cell? ⟨X, 0, none⟩ = some (.int .i64 n) := by rw [(row_cell HX.out 0).1]; rfl
  have x1 : W0.cell? ⟨X, 1, none⟩ = some (.slice Am nm cm) := by rw [(row_cell HX.out 1).1]; rfl
  have x2 : W0.cell? ⟨X, 2, none⟩ = some (.bool is) := by rw [(row_cell HX.out 2).1]; rfl
  have x3 : W0.cell? ⟨X, 3, none⟩ = some (.slice Al nl cl) := by rw [(row_cell HX.out 3).1]; rfl
  have y0 : W0.cell? ⟨X + 1, 0, none⟩ = some (.int .i64 n') := by rw [(row_cell HY.out 0).1]; rfl
  have y1 : W0.cell? ⟨X + 1, 1, none⟩ = some (.slice Am' nm' cm') := by rw [(row_cell HY.out 1).1]; rfl
  have y2 : W0.cell? ⟨X + 1, 2, none⟩ = some (.bool is') := by rw [(row_cell HY.out 2).1]; rfl
  have y3 : W0.cell? ⟨X + 1, 3, none⟩ = some (.slice Al' nl' cl') := by rw [(row_cell HY.out 3).1]; rfl
  have bx : Below w.heap.size w W0 := by rw [hX]; exact B0.out
  have S0 : Hid (X ≤ W0.heap.size) := by unfold Hid; have := bx.size; omega
  have ME := Lib.hid (requal_any W0.heap.size W0.heap.size (.slice Am nm cm) (.slice Am' nm' cm') M M' W0 (by rw [hkm]; exact (hm.belowP bx).st) (by rw [hkm']; exact (hm'.belowP bx).st) h5)
  have HL := Lib.hid (hl.belowP bx)
  have HL' := Lib.hid (hl'.belowP bx)
  have HK : Hid (L.length = nl ∧ L'.length = nl' ∧ nl ≤ 900) := ⟨hkl, hkl', by omega⟩
  obtain ⟨t3, ht3⟩ : ∃ t, decide (M = M') = t := ⟨_, rfl⟩
  rw [ht3] at ME ⊢
  rw [hX]
  clear hm hm' hl hl' h5 h9 hkm hkm' hkl hkl' ht3 bx
  by_cases hn : n = n'
  rotate_left
  · have hnb : (n == n') = false := by simp [hn]
    have hnc : (n != n') = true := by simp [hn]
    go_enter Try.func29, Try.ntmps29
    go_wp2_with fail
    go_ret
    exact ⟨by simp [hn], B0.out⟩
  subst hn
  have hnc : (n != n) = false := by simp
  by_cases hi : is = is'
  rotate_left
  · have hib : (is != is') = true := by simpa using hi
    go_enter Try.func29, Try.ntmps29
    go_wp2_with fail
    go_ret
    exact ⟨by simp [hi], B0.out⟩
  subst hi
  have hic : (is != is) = false := by simp
  cases t3 with
  | false =>
    go_enter Try.func29, Try.ntmps29
    go_wp2_with fail
    refine ME.out.mono ?_
    rintro e w1 ⟨rfl, b1⟩
    have B1 : Hid (Below X w w1) := B0.out.trans (b1.mono S0.out)
    clear b1
    go_wp2_with fail
    go_ret
    exact ⟨by simp, B1.out⟩
  | true =>
    obtain ⟨t4, ht4⟩ : ∃ t, decide (L = L') = t := ⟨_, rfl⟩
    have HT := Lib.hid ht4
    rw [ht4]
    clear ht4
    by_cases hnl : nl = nl'
    rotate_left
    · have hnlb : ((nl : Int) != (nl' : Int)) = true := by rw [bne_iff_ne]; omega
      have hnlc : ((nl : Int) == (nl' : Int)) = false := by rw [beq_eq_false_iff_ne]; omega
      have HF : Hid (t4 = false) := by
        unfold Hid; rw [← HT.out, decide_eq_false_iff_not]
        intro h; rw [h] at HK; have := HK.out; omega
      go_enter Try.func29, Try.ntmps29
      go_wp2_with fail
      refine ME.out.mono ?_
      rintro e w1 ⟨rfl, b1⟩
      have B1 : Hid (Below X w w1) := B0.out.trans (b1.mono S0.out)
      have x3 := cell_later b1 x3
      have y3 := cell_later b1 y3
      clear b1
      go_wp2_with fail
      go_ret
      exact ⟨by rw [HF.out]; simp, B1.out⟩
    subst hnl
    have hnlb : ((nl : Int) != (nl : Int)) = false := by simp
    go_enter Try.func29, Try.ntmps29
    go_wp2_with fail
    refine ME.out.mono ?_
    rintro e w1 ⟨rfl, b1⟩
    have B1 := Lib.hid b1
    have x3' := cell_later b1 x3
    have y3' := cell_later b1 y3
    clear b1
    go_wp2_with fail
    go_loopw [5] (fun iv wr => SmR nl L L' W0 iv wr) (fun i _ => 901 - (intOf i).toNat)
    case atStart => exact ⟨⟨0, Nat.zero_le _, rfl, fun k hk => by omega, B1.out⟩⟩
    case round =>
      obtain ⟨⟨j, hj, rfl, hall, hb⟩⟩ := hrel
      have HB := Lib.hid hb
      have HA := Lib.hid hall
      have HJ := Lib.hid hj
      clear hb hall hj x3' y3'
      have x3r := cell_later HB.out x3
      have y3r := cell_later HB.out y3
      by_cases hlt : j < nl
      · have hjI : (j : Int) < (nl : Int) := by omega
        have hj9 : (j : Int) < 900 := by have := HK.out; omega
        have HXj : Hid (j < nl) := hlt
        obtain ⟨_, q, off, hA1, _, _, hc⟩ := HL.out.at_ (by omega)
        obtain ⟨_, q', off', hA2, _, _, hc'⟩ := HL'.out.at_ (by omega)
        subst hA1 hA2
        obtain ⟨u, hu⟩ : ∃ u, L[j]? = some u := ⟨_, List.getElem?_eq_getElem (by have := HK.out; omega)⟩
        obtain ⟨v, hv⟩ : ∃ v, L'[j]? = some v := ⟨_, List.getElem?_eq_getElem (by have := HK.out; omega)⟩
        have d0 := cell_later HB.out (hc j _ (show (C L)[j]? = some (.int .i64 u) by simp [C, hu]))
        have d1 := cell_later HB.out (hc' j _ (show (C L')[j]? = some (.int .i64 v) by simp [C, hv]))
        have HU := Lib.hid hu
        have HV := Lib.hid hv
        clear hc hc' hlt hu hv
        by_cases huv : u = v
        · subst huv
          have huc : (u != u) = false := by simp
          have HE : Hid (∀ k, k < j + 1 → L[k]? = L'[k]?) := fun k hk => by
            by_cases hkj : k < j
            · exact HA.out k hkj
            · have : k = j := by omega
              subst this
              rw [HU.out, HV.out]
          go_wp2_with fail
          refine wp_region_held_drew (S := (fun w' => Below W0.heap.size W0 w' ∧ w'.cell? ⟨X, 3, none⟩ = some (.slice (some ⟨q, off, none⟩) nl cl) ∧ w'.cell? ⟨X + 1, 3, none⟩ = some (.slice (some ⟨q', off', none⟩) nl cl') ∧ w'.cell? ⟨q, off + j, none⟩ = some (.int .i64 u) ∧ w'.cell? ⟨q', off' + j, none⟩ = some (.int .i64 u))) (by kernel_rfl) ?_ (fun hHeld => ?_)
          · exact ⟨HB.out.drew, x3r, y3r, d0, d1⟩
          refine takeD (i := 0) (d := some 42) (v := ?_) _ rfl rfl (by kernel_rfl) (by kernel_rfl) (by kernel_rfl) (fun _ _ _ h => h) (by rfl) ?_ (by assumption) ?_
          rotate_left
          · (intro w hSw; (try dsimp only at hSw); go_simp) <;> with_reducible rfl
          try simp only [Act.put, List.setIfInBounds_toArray, List.set_cons_zero, List.set_cons_succ]
          refine takeD (i := 1) (d := some 43) (v := ?_) _ rfl rfl (by kernel_rfl) (by kernel_rfl) (by kernel_rfl) (fun _ _ _ h => h) (by rfl) ?_ (by assumption) ?_
          rotate_left
          · (intro w hSw; (try dsimp only at hSw); go_simp) <;> with_reducible rfl
          try simp only [Act.put, List.setIfInBounds_toArray, List.set_cons_zero, List.set_cons_succ]
          refine takeD (i := 2) (d := some 44) (v := ?_) _ rfl rfl (by kernel_rfl) (by kernel_rfl) (by kernel_rfl) (fun _ _ _ h => h) (by rfl) ?_ (by assumption) ?_
          rotate_left
          · (intro w hSw; (try dsimp only at hSw); go_simp) <;> with_reducible rfl
          try simp only [Act.put, List.setIfInBounds_toArray, List.set_cons_zero, List.set_cons_succ]
          refine takeD (i := 3) (d := some 45) (v := ?_) _ rfl rfl (by kernel_rfl) (by kernel_rfl) (by kernel_rfl) (fun _ _ _ h => h) (by rfl) ?_ (by assumption) ?_
          rotate_left
          · (intro w hSw; (try dsimp only at hSw); go_simp) <;> with_reducible rfl
          try simp only [Act.put, List.setIfInBounds_toArray, List.set_cons_zero, List.set_cons_succ]
          refine takeD (i := 4) (d := some 46) (v := ?_) _ rfl rfl (by kernel_rfl) (by kernel_rfl) (by kernel_rfl) (fun _ _ _ h => h) (by rfl) ?_ (by assumption) ?_
          rotate_left
          · (intro w hSw; (try dsimp only at hSw); go_simp) <;> with_reducible rfl
          try simp only [Act.put, List.setIfInBounds_toArray, List.set_cons_zero, List.set_cons_succ]
          refine takeD (i := 5) (d := some 47) (v := ?_) _ rfl rfl (by kernel_rfl) (by kernel_rfl) (by kernel_rfl) (fun _ _ _ h => h) (by rfl) ?_ (by assumption) ?_
          rotate_left
          · (intro w hSw; (try dsimp only at hSw); go_simp) <;> with_reducible rfl
          try simp only [Act.put, List.setIfInBounds_toArray, List.set_cons_zero, List.set_cons_succ]
          refine takeD (i := 6) (d := some 48) (v := ?_) _ rfl rfl (by kernel_rfl) (by kernel_rfl) (by kernel_rfl) (fun _ _ _ h => h) (by rfl) ?_ (by assumption) ?_
          rotate_left
          · (intro w hSw; (try dsimp only at hSw); go_simp) <;> with_reducible rfl
          try simp only [Act.put, List.setIfInBounds_toArray, List.set_cons_zero, List.set_cons_succ]
          refine takeD (i := 7) (d := some 49) (v := ?_) _ rfl rfl (by kernel_rfl) (by kernel_rfl) (by kernel_rfl) (fun _ _ _ h => h) (by rfl) ?_ (by assumption) ?_
          rotate_left
          · (intro w hSw; (try dsimp only at hSw); go_simp) <;> with_reducible rfl
          try simp only [Act.put, List.setIfInBounds_toArray, List.set_cons_zero, List.set_cons_succ]
          refine takeD (i := 8) (d := some 50) (v := ?_) _ rfl rfl (by kernel_rfl) (by kernel_rfl) (by kernel_rfl) (fun _ _ _ h => h) (by rfl) ?_ (by assumption) ?_
          rotate_left
          · (intro w hSw; (try dsimp only at hSw); go_simp) <;> with_reducible rfl
          try simp only [Act.put, List.setIfInBounds_toArray, List.set_cons_zero, List.set_cons_succ]
          refine takeD (i := 9) (d := some 51) (v := ?_) _ rfl rfl (by kernel_rfl) (by kernel_rfl) (by kernel_rfl) (fun _ _ _ h => h) (by rfl) ?_ (by assumption) ?_
          rotate_left
          · (intro w hSw; (try dsimp only at hSw); go_simp) <;> with_reducible rfl
          try simp only [Act.put, List.setIfInBounds_toArray, List.set_cons_zero, List.set_cons_succ]
          refine takeD (i := 10) (d := some 52) (v := ?_) _ rfl rfl (by kernel_rfl) (by kernel_rfl) (by kernel_rfl) (fun _ _ _ h => h) (by rfl) ?_ (by assumption) ?_
          rotate_left
          · (intro w hSw; (try dsimp only at hSw); go_simp) <;> with_reducible rfl
          try simp only [Act.put, List.setIfInBounds_toArray, List.set_cons_zero, List.set_cons_succ]
          refine wpAnyH_done (by kernel_rfl) ?_ _
          have HB1 := Lib.hid hHeld.1
          clear hHeld d0 d1
          go_wp2_with fail
          go_roundw
          case rel =>
            have Q : SmR nl L L' W0 (.int .i64 ((j : Int) + 1)) wr.drew := ⟨⟨j + 1, HXj.out, by go_num, HE.out, HB1.out⟩⟩
            first | exact Q | ((repeat apply Exists.intro); exact ⟨Q, rfl⟩)
          case measure => have := HXj.out; have := HK.out; simp [intOf]; omega
        · have huc : (u != v) = true := by simpa using huv
          have hub : (u == v) = false := by simpa using huv
          have HF : Hid (t4 = false) := by
            unfold Hid; rw [← HT.out, decide_eq_false_iff_not]
            intro h
            have := HU.out
            rw [h, HV.out] at this
            injection this with this
            exact huv this.symm
          go_wp2_with fail
          refine wp_region_held_drew (S := (fun w' => Below W0.heap.size W0 w' ∧ w'.cell? ⟨X, 3, none⟩ = some (.slice (some ⟨q, off, none⟩) nl cl) ∧ w'.cell? ⟨X + 1, 3, none⟩ = some (.slice (some ⟨q', off', none⟩) nl cl') ∧ w'.cell? ⟨q, off + j, none⟩ = some (.int .i64 u) ∧ w'.cell? ⟨q', off' + j, none⟩ = some (.int .i64 v))) (by kernel_rfl) ?_ (fun hHeld => ?_)
          · exact ⟨HB.out.drew, x3r, y3r, d0, d1⟩
          refine takeD (i := 0) (d := some 42) (v := ?_) _ rfl rfl (by kernel_rfl) (by kernel_rfl) (by kernel_rfl) (fun _ _ _ h => h) (by rfl) ?_ (by assumption) ?_
          rotate_left
          · (intro w hSw; (try dsimp only at hSw); go_simp) <;> with_reducible rfl
          try simp only [Act.put, List.setIfInBounds_toArray, List.set_cons_zero, List.set_cons_succ]
          refine takeD (i := 1) (d := some 43) (v := ?_) _ rfl rfl (by kernel_rfl) (by kernel_rfl) (by kernel_rfl) (fun _ _ _ h => h) (by rfl) ?_ (by assumption) ?_
          rotate_left
          · (intro w hSw; (try dsimp only at hSw); go_simp) <;> with_reducible rfl
          try simp only [Act.put, List.setIfInBounds_toArray, List.set_cons_zero, List.set_cons_succ]
          refine takeD (i := 2) (d := some 44) (v := ?_) _ rfl rfl (by kernel_rfl) (by kernel_rfl) (by kernel_rfl) (fun _ _ _ h => h) (by rfl) ?_ (by assumption) ?_
          rotate_left
          · (intro w hSw; (try dsimp only at hSw); go_simp) <;> with_reducible rfl
          try simp only [Act.put, List.setIfInBounds_toArray, List.set_cons_zero, List.set_cons_succ]
          refine takeD (i := 3) (d := some 45) (v := ?_) _ rfl rfl (by kernel_rfl) (by kernel_rfl) (by kernel_rfl) (fun _ _ _ h => h) (by rfl) ?_ (by assumption) ?_
          rotate_left
          · (intro w hSw; (try dsimp only at hSw); go_simp) <;> with_reducible rfl
          try simp only [Act.put, List.setIfInBounds_toArray, List.set_cons_zero, List.set_cons_succ]
          refine takeD (i := 4) (d := some 46) (v := ?_) _ rfl rfl (by kernel_rfl) (by kernel_rfl) (by kernel_rfl) (fun _ _ _ h => h) (by rfl) ?_ (by assumption) ?_
          rotate_left
          · (intro w hSw; (try dsimp only at hSw); go_simp) <;> with_reducible rfl
          try simp only [Act.put, List.setIfInBounds_toArray, List.set_cons_zero, List.set_cons_succ]
          refine takeD (i := 5) (d := some 47) (v := ?_) _ rfl rfl (by kernel_rfl) (by kernel_rfl) (by kernel_rfl) (fun _ _ _ h => h) (by rfl) ?_ (by assumption) ?_
          rotate_left
          · (intro w hSw; (try dsimp only at hSw); go_simp) <;> with_reducible rfl
          try simp only [Act.put, List.setIfInBounds_toArray, List.set_cons_zero, List.set_cons_succ]
          refine takeD (i := 6) (d := some 48) (v := ?_) _ rfl rfl (by kernel_rfl) (by kernel_rfl) (by kernel_rfl) (fun _ _ _ h => h) (by rfl) ?_ (by assumption) ?_
          rotate_left
          · (intro w hSw; (try dsimp only at hSw); go_simp) <;> with_reducible rfl
          try simp only [Act.put, List.setIfInBounds_toArray, List.set_cons_zero, List.set_cons_succ]
          refine takeD (i := 7) (d := some 49) (v := ?_) _ rfl rfl (by kernel_rfl) (by kernel_rfl) (by kernel_rfl) (fun _ _ _ h => h) (by rfl) ?_ (by assumption) ?_
          rotate_left
          · (intro w hSw; (try dsimp only at hSw); go_simp) <;> with_reducible rfl
          try simp only [Act.put, List.setIfInBounds_toArray, List.set_cons_zero, List.set_cons_succ]
          refine takeD (i := 8) (d := some 50) (v := ?_) _ rfl rfl (by kernel_rfl) (by kernel_rfl) (by kernel_rfl) (fun _ _ _ h => h) (by rfl) ?_ (by assumption) ?_
          rotate_left
          · (intro w hSw; (try dsimp only at hSw); go_simp) <;> with_reducible rfl
          try simp only [Act.put, List.setIfInBounds_toArray, List.set_cons_zero, List.set_cons_succ]
          refine takeD (i := 9) (d := some 51) (v := ?_) _ rfl rfl (by kernel_rfl) (by kernel_rfl) (by kernel_rfl) (fun _ _ _ h => h) (by rfl) ?_ (by assumption) ?_
          rotate_left
          · (intro w hSw; (try dsimp only at hSw); go_simp) <;> with_reducible rfl
          try simp only [Act.put, List.setIfInBounds_toArray, List.set_cons_zero, List.set_cons_succ]
          refine takeD (i := 10) (d := some 52) (v := ?_) _ rfl rfl (by kernel_rfl) (by kernel_rfl) (by kernel_rfl) (fun _ _ _ h => h) (by rfl) ?_ (by assumption) ?_
          rotate_left
          · (intro w hSw; (try dsimp only at hSw); go_simp) <;> with_reducible rfl
          try simp only [Act.put, List.setIfInBounds_toArray, List.set_cons_zero, List.set_cons_succ]
          refine wpAnyH_done (by kernel_rfl) ?_ _
          have HB1 := Lib.hid hHeld.1
          clear hHeld d0 d1
          go_wp2_with fail
          go_ret
          exact ⟨by rw [HF.out]; simp, B0.out.trans (HB1.out.mono S0.out)⟩
      · have hjI : ¬ (j : Int) < (nl : Int) := by omega
        have HF : Hid (t4 = true) := by
          unfold Hid; rw [← HT.out, decide_eq_true_iff]
          apply List.ext_getElem?
          intro k
          by_cases hk : k < j
          · exact HA.out k hk
          · rw [List.getElem?_eq_none (by have := HK.out; omega), List.getElem?_eq_none (by have := HK.out; omega)]
        clear hlt
        go_wp2_with fail
        go_ret
        exact ⟨by rw [HF.out]; simp, B0.out.trans (HB.out.mono S0.out)⟩
end Go.Proofs.Ytfmcmhgpgkeplaa.B
