/-
  What the reference answers. Each statement bears its own conditions.
-/
import Derived.Test.YtmodkfboolmckaaSaB
namespace Go.Proofs.Ytmodkfboolmckaa.Sa
open Go.RowKit Go.Proofs.Ytmodkfboolmckaa.F Go.Proofs.Ytmodkfboolmckaa.U
set_option linter.unusedVariables false
set_option linter.unusedSimpArgs false
theorem results_cell_tmp {P : Program} {fn : Func} {p q : Tmp} {ty : TypeId} (h : fn.results = #[.cell p ty, .tmp q]) (tmps : Array Value) (w : World) (g : Nat) (cs : List Value) (d : TypeDesc)
    (hp : tmps.getD p undef = .pointer (some ⟨g, 0, none⟩)) (hc : w.rangeAt g 0 cs)
    (hu : P.underlying ty = some d) (hd : d.isRow = true) (hi : (P.info? ty).map (·.size) = some cs.length) :
    (results fn tmps).run P w = .ok (.tuple #[.agg cs.toArray, tmps.getD q undef]) w := by
  have hp' : tmps[p]?.getD undef = .pointer (some ⟨g, 0, none⟩) := by simpa using hp
  simp [results, h, hp', asAddr, run_loadVar_mid w g 0 ty cs d hc hu hd hi]
theorem results_cell_two {P : Program} {fn : Func} {p q s : Tmp} {ty : TypeId} (h : fn.results = #[.cell p ty, .tmp q, .tmp s]) (tmps : Array Value) (w : World) (g : Nat) (cs : List Value) (d : TypeDesc)
    (hp : tmps.getD p undef = .pointer (some ⟨g, 0, none⟩)) (hc : w.rangeAt g 0 cs)
    (hu : P.underlying ty = some d) (hd : d.isRow = true) (hi : (P.info? ty).map (·.size) = some cs.length) :
    (results fn tmps).run P w = .ok (.tuple #[.agg cs.toArray, tmps.getD q undef, tmps.getD s undef]) w := by
  have hp' : tmps[p]?.getD undef = .pointer (some ⟨g, 0, none⟩) := by simpa using hp
  simp [results, h, hp', asAddr, run_loadVar_mid w g 0 ty cs d hc hu hd hi]
theorem results_cell_one {P : Program} {fn : Func} {p : Tmp} {ty : TypeId} (h : fn.results = #[.cell p ty]) (tmps : Array Value) (w : World) (g : Nat) (cs : List Value) (d : TypeDesc)
    (hp : tmps.getD p undef = .pointer (some ⟨g, 0, none⟩)) (hc : w.rangeAt g 0 cs)
    (hu : P.underlying ty = some d) (hd : d.isRow = true) (hi : (P.info? ty).map (·.size) = some cs.length) :
    (results fn tmps).run P w = .ok (.agg cs.toArray) w := by
  have hp' : tmps[p]?.getD undef = .pointer (some ⟨g, 0, none⟩) := by simpa using hp
  simp [results, h, hp', asAddr, run_loadVar_mid w g 0 ty cs d hc hu hd hi]
theorem results_tmp_cell {P : Program} {fn : Func} {p q : Tmp} {ty : TypeId} (h : fn.results = #[.tmp q, .cell p ty]) (tmps : Array Value) (w : World) (g : Nat) (cs : List Value) (d : TypeDesc)
    (hp : tmps.getD p undef = .pointer (some ⟨g, 0, none⟩)) (hc : w.rangeAt g 0 cs)
    (hu : P.underlying ty = some d) (hd : d.isRow = true) (hi : (P.info? ty).map (·.size) = some cs.length) :
    (results fn tmps).run P w = .ok (.tuple #[tmps.getD q undef, .agg cs.toArray]) w := by
  have hp' : tmps[p]?.getD undef = .pointer (some ⟨g, 0, none⟩) := by simpa using hp
  simp [results, h, hp', asAddr, run_loadVar_mid w g 0 ty cs d hc hu hd hi]
theorem set_five {w : World} {g : Nat} {c0 c1 c2 c3 c4 : Value} {t : TypeId} (h : w.heap[g]? = some (.cells #[c0, c1, c2, c3, c4] t (0, 0))) (a b c d e : Value) : (((((w.setCell ⟨g, 0, none⟩ a).setCell ⟨g, 1, none⟩ b).setCell ⟨g, 2, none⟩ c).setCell ⟨g, 3, none⟩ d).setCell ⟨g, 4, none⟩ e).rangeAt g 0 [a, b, c, d, e] := by
  have h1 := set_at (set_at (set_at (set_at (set_at h 0 a) 1 b) 2 c) 3 d) 4 e
  intro j v hv
  rw [Nat.zero_add, (row_cell h1 j).1]
  simpa using hv
theorem rowU_new (w : World) : (w.alloc (.cells #[] 55)).ownsRow w.heap.size 55 1 (.slice (some ⟨w.heap.size, 0, none⟩) 0 0) 0 [] :=
  ⟨rfl, .inr ⟨w.heap.size, 0, #[], rfl, Nat.le_refl _, heap_alloc_new w _, Nat.le_refl _, by unfold maxLen; omega, rfl, rfl⟩⟩
set_option maxRecDepth 100000 in
set_option maxHeartbeats 4000000 in
theorem rwords_any (g g' : Nat) (v v' : Value) (a b : List Int) (w : World) (h : St g w 1 v a.length (CU a)) (h' : St g' w 1 v' b.length (CU b)) (hm : a.length ≤ 5000) :
    Calls Try.prog 15 #[v, v'] w fun e w' => e = .returned (.bool (decide (a = b))) ∧ Below w.heap.size w w' := by
  obtain ⟨A, c, rfl⟩ := h.form
  obtain ⟨A', c', rfl⟩ := h'.form
  obtain ⟨n, hn⟩ : ∃ n, a.length = n := ⟨_, rfl⟩
  obtain ⟨m, hn'⟩ : ∃ m, b.length = m := ⟨_, rfl⟩
  obtain ⟨t, ht⟩ : ∃ t, decide (a = b) = t := ⟨_, rfl⟩
  rw [hn] at h hm ⊢
  rw [hn'] at h' ⊢
  rw [ht]
  have HN := Lib.hid hn
  have HN' := Lib.hid hn'
  have HT := Lib.hid ht
  have H := Lib.hid h
  have H' := Lib.hid h'
  clear hn hn' h h' ht
  by_cases hnm : n = m
  · subst hnm
    go_enter Try.func15, Try.ntmps15
    go_wp2_with fail
    go_loopw [5] (fun v wr => EqRel n a b w v wr) (fun v => fun _ => n - (intOf v).toNat)
    case atStart => exact ⟨⟨0, Nat.zero_le _, rfl, fun j hj => by omega, Below.refl _ _⟩⟩
    case round =>
      obtain ⟨⟨k, hk, rfl, hall, hb⟩⟩ := hrel
      have HK := Lib.hid hk
      have HA := Lib.hid hall
      have HB := Lib.hid hb
      clear hk hall hb
      by_cases hlt : k < n
      · have hkI : (k : Int) < (n : Int) := by omega
        have HX : Hid (k < n) := hlt
        obtain ⟨_, q, off, rfl, hbl, hg, hc⟩ := H.out.at_ hlt
        obtain ⟨_, q', off', rfl, hbl', hg', hc'⟩ := H'.out.at_ hlt
        obtain ⟨x, hx⟩ : ∃ x, a[k]? = some x := ⟨_, List.getElem?_eq_getElem (by have := HN.out; omega)⟩
        obtain ⟨y, hy⟩ : ∃ y, b[k]? = some y := ⟨_, List.getElem?_eq_getElem (by have := HN'.out; omega)⟩
        have HXS := Lib.hid hx
        have HYS := Lib.hid hy
        have d0 : wr.cell? ⟨q, off + k, none⟩ = some (.int .u32 x) := cell_later HB.out (hc k _ (CU_at hx))
        have e0 : wr.cell? ⟨q', off' + k, none⟩ = some (.int .u32 y) := cell_later HB.out (hc' k _ (CU_at hy))
        clear hc hc' hbl hbl' hg hg' hx hy hlt
        by_cases hxy : x = y
        · subst hxy
          have HE : Hid (a[k]? = b[k]?) := HXS.out.trans HYS.out.symm
          go_wp2_with fail
          refine wp_region_held_drew (S := (fun w' => Below w.heap.size w w' ∧ w'.cell? ⟨q, off + k, none⟩ = some (.int .u32 x) ∧ w'.cell? ⟨q', off' + k, none⟩ = some (.int .u32 x))) (by kernel_rfl) ?_ (fun hHeld => ?_)
          · exact ⟨below_drewN HB.out 1, d0, e0⟩
          refine takeD (i := 0) (d := some 17) (v := ?_) _ rfl rfl (by kernel_rfl) (by kernel_rfl) (by kernel_rfl) (fun _ _ _ h => h) (by rfl) ?_ (by assumption) ?_
          rotate_left
          · (intro w hSw; (try dsimp only at hSw); go_simp) <;> with_reducible rfl
          try simp only [Act.put, List.setIfInBounds_toArray, List.set_cons_zero, List.set_cons_succ]
          refine takeD (i := 1) (d := some 18) (v := ?_) _ rfl rfl (by kernel_rfl) (by kernel_rfl) (by kernel_rfl) (fun _ _ _ h => h) (by rfl) ?_ (by assumption) ?_
          rotate_left
          · (intro w hSw; (try dsimp only at hSw); go_simp) <;> with_reducible rfl
          try simp only [Act.put, List.setIfInBounds_toArray, List.set_cons_zero, List.set_cons_succ]
          refine takeD (i := 2) (d := some 19) (v := ?_) _ rfl rfl (by kernel_rfl) (by kernel_rfl) (by kernel_rfl) (fun _ _ _ h => h) (by rfl) ?_ (by assumption) ?_
          rotate_left
          · (intro w hSw; (try dsimp only at hSw); go_simp) <;> with_reducible rfl
          try simp only [Act.put, List.setIfInBounds_toArray, List.set_cons_zero, List.set_cons_succ]
          refine takeD (i := 3) (d := some 20) (v := ?_) _ rfl rfl (by kernel_rfl) (by kernel_rfl) (by kernel_rfl) (fun _ _ _ h => h) (by rfl) ?_ (by assumption) ?_
          rotate_left
          · (intro w hSw; (try dsimp only at hSw); go_simp) <;> with_reducible rfl
          try simp only [Act.put, List.setIfInBounds_toArray, List.set_cons_zero, List.set_cons_succ]
          refine takeD (i := 4) (d := some 21) (v := ?_) _ rfl rfl (by kernel_rfl) (by kernel_rfl) (by kernel_rfl) (fun _ _ _ h => h) (by rfl) ?_ (by assumption) ?_
          rotate_left
          · (intro w hSw; (try dsimp only at hSw); go_simp) <;> with_reducible rfl
          try simp only [Act.put, List.setIfInBounds_toArray, List.set_cons_zero, List.set_cons_succ]
          refine takeD (i := 5) (d := some 22) (v := ?_) _ rfl rfl (by kernel_rfl) (by kernel_rfl) (by kernel_rfl) (fun _ _ _ h => h) (by rfl) ?_ (by assumption) ?_
          rotate_left
          · (intro w hSw; (try dsimp only at hSw); go_simp) <;> with_reducible rfl
          try simp only [Act.put, List.setIfInBounds_toArray, List.set_cons_zero, List.set_cons_succ]
          refine takeD (i := 6) (d := some 23) (v := ?_) _ rfl rfl (by kernel_rfl) (by kernel_rfl) (by kernel_rfl) (fun _ _ _ h => h) (by rfl) ?_ (by assumption) ?_
          rotate_left
          · (intro w hSw; (try dsimp only at hSw); go_simp) <;> with_reducible rfl
          try simp only [Act.put, List.setIfInBounds_toArray, List.set_cons_zero, List.set_cons_succ]
          refine takeD (i := 7) (d := some 24) (v := ?_) _ rfl rfl (by kernel_rfl) (by kernel_rfl) (by kernel_rfl) (fun _ _ _ h => h) (by rfl) ?_ (by assumption) ?_
          rotate_left
          · (intro w hSw; (try dsimp only at hSw); go_simp) <;> with_reducible rfl
          try simp only [Act.put, List.setIfInBounds_toArray, List.set_cons_zero, List.set_cons_succ]
          refine takeD (i := 8) (d := some 25) (v := ?_) _ rfl rfl (by kernel_rfl) (by kernel_rfl) (by kernel_rfl) (fun _ _ _ h => h) (by rfl) ?_ (by assumption) ?_
          rotate_left
          · (intro w hSw; (try dsimp only at hSw); go_simp) <;> with_reducible rfl
          try simp only [Act.put, List.setIfInBounds_toArray, List.set_cons_zero, List.set_cons_succ]
          refine wpAnyH_done (by kernel_rfl) ?_ _
          have HB1 := Lib.hid hHeld.1
          clear hHeld d0 e0
          go_wp2_with fail
          go_roundw
          case rel =>
            have Q : EqRel n a b w (.int .i64 ((k : Int) + 1)) wr.drew := EqRel.next HX.out HA.out HE.out HB1.out
            first | exact Q | ((repeat apply Exists.intro); exact ⟨Q, rfl⟩)
          case measure => have := HX.out; simp [intOf]; omega
        · have HF : Hid (t = false) := by
            unfold Hid
            rw [← HT.out, decide_eq_false_iff_not]
            intro hab
            rw [hab, HYS.out] at HXS
            have := HXS.out
            injection this with this
            exact hxy this.symm
          have hxb : (x == y) = false := by simpa using hxy
          have hxc : (x != y) = true := by simpa using hxy
          go_wp2_with fail
          refine wp_region_held_drew (S := (fun w' => Below w.heap.size w w' ∧ w'.cell? ⟨q, off + k, none⟩ = some (.int .u32 x) ∧ w'.cell? ⟨q', off' + k, none⟩ = some (.int .u32 y))) (by kernel_rfl) ?_ (fun hHeld => ?_)
          · exact ⟨below_drewN HB.out 1, d0, e0⟩
          refine takeD (i := 0) (d := some 17) (v := ?_) _ rfl rfl (by kernel_rfl) (by kernel_rfl) (by kernel_rfl) (fun _ _ _ h => h) (by rfl) ?_ (by assumption) ?_
          rotate_left
          · (intro w hSw; (try dsimp only at hSw); go_simp) <;> with_reducible rfl
          try simp only [Act.put, List.setIfInBounds_toArray, List.set_cons_zero, List.set_cons_succ]
          refine takeD (i := 1) (d := some 18) (v := ?_) _ rfl rfl (by kernel_rfl) (by kernel_rfl) (by kernel_rfl) (fun _ _ _ h => h) (by rfl) ?_ (by assumption) ?_
          rotate_left
          · (intro w hSw; (try dsimp only at hSw); go_simp) <;> with_reducible rfl
          try simp only [Act.put, List.setIfInBounds_toArray, List.set_cons_zero, List.set_cons_succ]
          refine takeD (i := 2) (d := some 19) (v := ?_) _ rfl rfl (by kernel_rfl) (by kernel_rfl) (by kernel_rfl) (fun _ _ _ h => h) (by rfl) ?_ (by assumption) ?_
          rotate_left
          · (intro w hSw; (try dsimp only at hSw); go_simp) <;> with_reducible rfl
          try simp only [Act.put, List.setIfInBounds_toArray, List.set_cons_zero, List.set_cons_succ]
          refine takeD (i := 3) (d := some 20) (v := ?_) _ rfl rfl (by kernel_rfl) (by kernel_rfl) (by kernel_rfl) (fun _ _ _ h => h) (by rfl) ?_ (by assumption) ?_
          rotate_left
          · (intro w hSw; (try dsimp only at hSw); go_simp) <;> with_reducible rfl
          try simp only [Act.put, List.setIfInBounds_toArray, List.set_cons_zero, List.set_cons_succ]
          refine takeD (i := 4) (d := some 21) (v := ?_) _ rfl rfl (by kernel_rfl) (by kernel_rfl) (by kernel_rfl) (fun _ _ _ h => h) (by rfl) ?_ (by assumption) ?_
          rotate_left
          · (intro w hSw; (try dsimp only at hSw); go_simp) <;> with_reducible rfl
          try simp only [Act.put, List.setIfInBounds_toArray, List.set_cons_zero, List.set_cons_succ]
          refine takeD (i := 5) (d := some 22) (v := ?_) _ rfl rfl (by kernel_rfl) (by kernel_rfl) (by kernel_rfl) (fun _ _ _ h => h) (by rfl) ?_ (by assumption) ?_
          rotate_left
          · (intro w hSw; (try dsimp only at hSw); go_simp) <;> with_reducible rfl
          try simp only [Act.put, List.setIfInBounds_toArray, List.set_cons_zero, List.set_cons_succ]
          refine takeD (i := 6) (d := some 23) (v := ?_) _ rfl rfl (by kernel_rfl) (by kernel_rfl) (by kernel_rfl) (fun _ _ _ h => h) (by rfl) ?_ (by assumption) ?_
          rotate_left
          · (intro w hSw; (try dsimp only at hSw); go_simp) <;> with_reducible rfl
          try simp only [Act.put, List.setIfInBounds_toArray, List.set_cons_zero, List.set_cons_succ]
          refine takeD (i := 7) (d := some 24) (v := ?_) _ rfl rfl (by kernel_rfl) (by kernel_rfl) (by kernel_rfl) (fun _ _ _ h => h) (by rfl) ?_ (by assumption) ?_
          rotate_left
          · (intro w hSw; (try dsimp only at hSw); go_simp) <;> with_reducible rfl
          try simp only [Act.put, List.setIfInBounds_toArray, List.set_cons_zero, List.set_cons_succ]
          refine takeD (i := 8) (d := some 25) (v := ?_) _ rfl rfl (by kernel_rfl) (by kernel_rfl) (by kernel_rfl) (fun _ _ _ h => h) (by rfl) ?_ (by assumption) ?_
          rotate_left
          · (intro w hSw; (try dsimp only at hSw); go_simp) <;> with_reducible rfl
          try simp only [Act.put, List.setIfInBounds_toArray, List.set_cons_zero, List.set_cons_succ]
          refine wpAnyH_done (by kernel_rfl) ?_ _
          have HB1 := Lib.hid hHeld.1
          clear hHeld d0 e0
          go_wp2_with fail
          go_ret
          exact ⟨by rw [HF.out]; rfl, HB1.out⟩
      · have hkn : k = n := by have := HK.out; omega
        subst hkn
        have HF : Hid (t = true) := by
          unfold Hid
          rw [← HT.out, decide_eq_true_eq]
          exact eq_of_all HN.out HN'.out HA.out
        clear hlt
        go_wp2_with fail
        go_ret
        exact ⟨by rw [HF.out]; rfl, HB.out⟩
  · have HF : Hid (t = false) := by
      unfold Hid
      rw [← HT.out, decide_eq_false_iff_not]
      intro hab
      exact hnm (by rw [← HN.out, ← HN'.out, hab])
    have hnmB : ((n : Int) == (m : Int)) = false := by rw [beq_eq_false_iff_ne]; omega
    have hnmC : ((n : Int) != (m : Int)) = true := by rw [bne_iff_ne]; omega
    go_enter Try.func15, Try.ntmps15
    go_wp2_with fail
    go_ret
    exact ⟨by rw [HF.out]; rfl, Below.refl _ _⟩
set_option maxRecDepth 100000 in
set_option maxHeartbeats 4000000 in
theorem rwrite_bad (n k : Int) (has : Bool) (Am : Option Addr) (nm cm : Nat) (st : Int) (t : Int) (v : Value) (w : World) (ht : ¬ tk t) :
    Calls Try.prog 25 #[.agg #[.int .i64 n, .int .i64 k, .bool has, .slice Am nm cm, .int .i64 st], .int .i64 t, v] w fun e w' => e = .returned (.tuple #[.agg #[.int .i64 n, .int .i64 k, .bool has, .slice Am nm cm, .int .i64 st], .int .i64 1]) ∧ Below w.heap.size w w' := by
  obtain ⟨X, hX⟩ : ∃ X, w.heap.size = X := ⟨_, rfl⟩
  obtain ⟨W0, hW0⟩ : ∃ W0, (w.alloc (.cells #[.int .i64 n, .int .i64 k, .bool has, .slice Am nm cm, .int .i64 st] 26)).alloc (.cells #[.int .i64 0, .int .i64 0, .bool false, .slice none 0 0, .int .i64 0] 26) = W0 := ⟨_, rfl⟩
  have B0 : Hid (Below X w W0) := by rw [← hW0, ← hX]; exact (((Below.refl _ _).alloc (Nat.le_refl _) _).alloc (by simp) _)
  have S0 : Hid (W0.heap.size = X + 2) := by unfold Hid; rw [← hW0, ← hX]; simp
  have HX0 : Hid (W0.heap[X]? = some (.cells #[.int .i64 n, .int .i64 k, .bool has, .slice Am nm cm, .int .i64 st] 26 (0, 0))) := by
    rw [← hW0, ← hX]; exact (((Below.refl _ _).alloc (Nat.le_refl _) _).block _ (by simp)).trans (heap_alloc_new _ _)
  have HY0 : Hid (W0.heap[X + 1]? = some (.cells #[.int .i64 0, .int .i64 0, .bool false, .slice none 0 0, .int .i64 0] 26 (0, 0))) := by
    rw [← hW0, ← hX]; have := heap_alloc_new (w.alloc (.cells #[.int .i64 n, .int .i64 k, .bool has, .slice Am nm cm, .int .i64 st] 26)) (.cells #[.int .i64 0, .int .i64 0, .bool false, .slice none 0 0, .int .i64 0] 26); unfold Hid; simpa using this
  have x0 : W0.cell? ⟨X, 0, none⟩ = some (.int .i64 n) := by rw [(row_cell HX0.out 0).1]; rfl
  have xf0 : W0.frozen? ⟨X, 0, none⟩ = false := (row_cell HX0.out 0).2
  have x1 : W0.cell? ⟨X, 1, none⟩ = some (.int .i64 k) := by rw [(row_cell HX0.out 1).1]; rfl
  have xf1 : W0.frozen? ⟨X, 1, none⟩ = false := (row_cell HX0.out 1).2
  have x2 : W0.cell? ⟨X, 2, none⟩ = some (.bool has) := by rw [(row_cell HX0.out 2).1]; rfl
  have xf2 : W0.frozen? ⟨X, 2, none⟩ = false := (row_cell HX0.out 2).2
  have x3 : W0.cell? ⟨X, 3, none⟩ = some (.slice Am nm cm) := by rw [(row_cell HX0.out 3).1]; rfl
  have xf3 : W0.frozen? ⟨X, 3, none⟩ = false := (row_cell HX0.out 3).2
  have x4 : W0.cell? ⟨X, 4, none⟩ = some (.int .i64 st) := by rw [(row_cell HX0.out 4).1]; rfl
  have xf4 : W0.frozen? ⟨X, 4, none⟩ = false := (row_cell HX0.out 4).2
  have y0 : W0.cell? ⟨X + 1, 0, none⟩ = some (.int .i64 0) := by rw [(row_cell HY0.out 0).1]; rfl
  have yf0 : W0.frozen? ⟨X + 1, 0, none⟩ = false := (row_cell HY0.out 0).2
  have y1 : W0.cell? ⟨X + 1, 1, none⟩ = some (.int .i64 0) := by rw [(row_cell HY0.out 1).1]; rfl
  have yf1 : W0.frozen? ⟨X + 1, 1, none⟩ = false := (row_cell HY0.out 1).2
  have y2 : W0.cell? ⟨X + 1, 2, none⟩ = some (.bool false) := by rw [(row_cell HY0.out 2).1]; rfl
  have yf2 : W0.frozen? ⟨X + 1, 2, none⟩ = false := (row_cell HY0.out 2).2
  have y3 : W0.cell? ⟨X + 1, 3, none⟩ = some (.slice none 0 0) := by rw [(row_cell HY0.out 3).1]; rfl
  have yf3 : W0.frozen? ⟨X + 1, 3, none⟩ = false := (row_cell HY0.out 3).2
  have y4 : W0.cell? ⟨X + 1, 4, none⟩ = some (.int .i64 0) := by rw [(row_cell HY0.out 4).1]; rfl
  have yf4 : W0.frozen? ⟨X + 1, 4, none⟩ = false := (row_cell HY0.out 4).2
  have TB := Lib.hid (rtick_any t W0)
  rw [decide_eq_false ht] at TB
  rw [hX]
  clear ht
  go_enter Try.func25, Try.ntmps25
  go_wp2_with fail
  refine TB.out.mono ?_
  rintro e w1 ⟨rfl, hw⟩
  have hw := hw.symm
  subst hw
  go_wp2_with fail
  refine bodyPost_ret (results_cell_tmp rfl _ _ (X + 1) _ _ rfl (set_five HY0.out _ _ _ _ _) Try.underlying26 rfl (by kernel_rfl)) rfl ?_
  exact ⟨rfl, (((((B0.out.setCell (by exact Nat.le_succ _) _).setCell (by exact Nat.le_succ _) _).setCell (by exact Nat.le_succ _) _).setCell (by exact Nat.le_succ _) _).setCell (by exact Nat.le_succ _) _)⟩
set_option maxRecDepth 100000 in
set_option maxHeartbeats 4000000 in
theorem rwrite_big (n k : Int) (has : Bool) (Am : Option Addr) (nm cm : Nat) (st : Int) (t : Int) (Ak : Option Addr) (nk ck : Nat) (w : World) (ht : tk t) (hk : ¬ (nk : Int) ≤ n) :
    Calls Try.prog 25 #[.agg #[.int .i64 n, .int .i64 k, .bool has, .slice Am nm cm, .int .i64 st], .int .i64 t, .slice Ak nk ck] w fun e w' => e = .returned (.tuple #[.agg #[.int .i64 n, .int .i64 k, .bool has, .slice Am nm cm, .int .i64 st], .int .i64 2]) ∧ Below w.heap.size w w' := by
  obtain ⟨X, hX⟩ : ∃ X, w.heap.size = X := ⟨_, rfl⟩
  obtain ⟨W0, hW0⟩ : ∃ W0, (w.alloc (.cells #[.int .i64 n, .int .i64 k, .bool has, .slice Am nm cm, .int .i64 st] 26)).alloc (.cells #[.int .i64 0, .int .i64 0, .bool false, .slice none 0 0, .int .i64 0] 26) = W0 := ⟨_, rfl⟩
  have B0 : Hid (Below X w W0) := by rw [← hW0, ← hX]; exact (((Below.refl _ _).alloc (Nat.le_refl _) _).alloc (by simp) _)
  have S0 : Hid (W0.heap.size = X + 2) := by unfold Hid; rw [← hW0, ← hX]; simp
  have HX0 : Hid (W0.heap[X]? = some (.cells #[.int .i64 n, .int .i64 k, .bool has, .slice Am nm cm, .int .i64 st] 26 (0, 0))) := by
    rw [← hW0, ← hX]; exact (((Below.refl _ _).alloc (Nat.le_refl _) _).block _ (by simp)).trans (heap_alloc_new _ _)
  have HY0 : Hid (W0.heap[X + 1]? = some (.cells #[.int .i64 0, .int .i64 0, .bool false, .slice none 0 0, .int .i64 0] 26 (0, 0))) := by
    rw [← hW0, ← hX]; have := heap_alloc_new (w.alloc (.cells #[.int .i64 n, .int .i64 k, .bool has, .slice Am nm cm, .int .i64 st] 26)) (.cells #[.int .i64 0, .int .i64 0, .bool false, .slice none 0 0, .int .i64 0] 26); unfold Hid; simpa using this
  have x0 : W0.cell? ⟨X, 0, none⟩ = some (.int .i64 n) := by rw [(row_cell HX0.out 0).1]; rfl
  have xf0 : W0.frozen? ⟨X, 0, none⟩ = false := (row_cell HX0.out 0).2
  have x1 : W0.cell? ⟨X, 1, none⟩ = some (.int .i64 k) := by rw [(row_cell HX0.out 1).1]; rfl
  have xf1 : W0.frozen? ⟨X, 1, none⟩ = false := (row_cell HX0.out 1).2
  have x2 : W0.cell? ⟨X, 2, none⟩ = some (.bool has) := by rw [(row_cell HX0.out 2).1]; rfl
  have xf2 : W0.frozen? ⟨X, 2, none⟩ = false := (row_cell HX0.out 2).2
  have x3 : W0.cell? ⟨X, 3, none⟩ = some (.slice Am nm cm) := by rw [(row_cell HX0.out 3).1]; rfl
  have xf3 : W0.frozen? ⟨X, 3, none⟩ = false := (row_cell HX0.out 3).2
  have x4 : W0.cell? ⟨X, 4, none⟩ = some (.int .i64 st) := by rw [(row_cell HX0.out 4).1]; rfl
  have xf4 : W0.frozen? ⟨X, 4, none⟩ = false := (row_cell HX0.out 4).2
  have y0 : W0.cell? ⟨X + 1, 0, none⟩ = some (.int .i64 0) := by rw [(row_cell HY0.out 0).1]; rfl
  have yf0 : W0.frozen? ⟨X + 1, 0, none⟩ = false := (row_cell HY0.out 0).2
  have y1 : W0.cell? ⟨X + 1, 1, none⟩ = some (.int .i64 0) := by rw [(row_cell HY0.out 1).1]; rfl
  have yf1 : W0.frozen? ⟨X + 1, 1, none⟩ = false := (row_cell HY0.out 1).2
  have y2 : W0.cell? ⟨X + 1, 2, none⟩ = some (.bool false) := by rw [(row_cell HY0.out 2).1]; rfl
  have yf2 : W0.frozen? ⟨X + 1, 2, none⟩ = false := (row_cell HY0.out 2).2
  have y3 : W0.cell? ⟨X + 1, 3, none⟩ = some (.slice none 0 0) := by rw [(row_cell HY0.out 3).1]; rfl
  have yf3 : W0.frozen? ⟨X + 1, 3, none⟩ = false := (row_cell HY0.out 3).2
  have y4 : W0.cell? ⟨X + 1, 4, none⟩ = some (.int .i64 0) := by rw [(row_cell HY0.out 4).1]; rfl
  have yf4 : W0.frozen? ⟨X + 1, 4, none⟩ = false := (row_cell HY0.out 4).2
  have TB := Lib.hid (rtick_any t W0)
  rw [decide_eq_true ht] at TB
  rw [hX]
  have hgt : n < (nk : Int) := by omega
  have hgt' : decide (n < (nk : Int)) = true := by simpa using hgt
  clear ht hk
  go_enter Try.func25, Try.ntmps25
  go_wp2_with fail
  refine TB.out.mono ?_
  rintro e w1 ⟨rfl, hw⟩
  have hw := hw.symm
  subst hw
  go_wp2_with fail
  refine bodyPost_ret (results_cell_tmp rfl _ _ (X + 1) _ _ rfl (set_five HY0.out _ _ _ _ _) Try.underlying26 rfl (by kernel_rfl)) rfl ?_
  exact ⟨rfl, (((((B0.out.setCell (by exact Nat.le_succ _) _).setCell (by exact Nat.le_succ _) _).setCell (by exact Nat.le_succ _) _).setCell (by exact Nat.le_succ _) _).setCell (by exact Nat.le_succ _) _)⟩
set_option maxRecDepth 100000 in
set_option maxHeartbeats 4000000 in
theorem rwrite_ok (n k : Int) (has : Bool) (Am : Option Addr) (nm cm : Nat) (st : Int) (P : Nat → Prop) (K : List Int) (t : Int) (Ak : Option Addr) (nk ck : Nat) (w : World) (ht : tk t) (hv : Sq w P (.slice Ak nk ck) nk (CU K)) (hk : (nk : Int) ≤ n) (hn : nk ≤ 40) :
    Calls Try.prog 25 #[.agg #[.int .i64 n, .int .i64 k, .bool has, .slice Am nm cm, .int .i64 st], .int .i64 t, .slice Ak nk ck] w fun e w' => ∃ A' c', e = .returned (.tuple #[.agg #[.int .i64 n, .int .i64 k, .bool true, .slice A' nk c', .int .i64 t], .int .i64 0]) ∧ w'.ownsRow w.heap.size 55 1 (.slice A' nk c') nk (CU K) ∧ Below w.heap.size w w' := by
  obtain ⟨i0, hi, hz0, hz1, hz2⟩ := info_of u32_info
  obtain ⟨X, hX⟩ : ∃ X, w.heap.size = X := ⟨_, rfl⟩
  obtain ⟨W0, hW0⟩ : ∃ W0, (w.alloc (.cells #[.int .i64 n, .int .i64 k, .bool has, .slice Am nm cm, .int .i64 st] 26)).alloc (.cells #[.int .i64 0, .int .i64 0, .bool false, .slice none 0 0, .int .i64 0] 26) = W0 := ⟨_, rfl⟩
  have B0 : Hid (Below X w W0) := by rw [← hW0, ← hX]; exact (((Below.refl _ _).alloc (Nat.le_refl _) _).alloc (by simp) _)
  have S0 : Hid (W0.heap.size = X + 2) := by unfold Hid; rw [← hW0, ← hX]; simp
  have HX0 : Hid (W0.heap[X]? = some (.cells #[.int .i64 n, .int .i64 k, .bool has, .slice Am nm cm, .int .i64 st] 26 (0, 0))) := by
    rw [← hW0, ← hX]; exact (((Below.refl _ _).alloc (Nat.le_refl _) _).block _ (by simp)).trans (heap_alloc_new _ _)
  have HY0 : Hid (W0.heap[X + 1]? = some (.cells #[.int .i64 0, .int .i64 0, .bool false, .slice none 0 0, .int .i64 0] 26 (0, 0))) := by
    rw [← hW0, ← hX]; have := heap_alloc_new (w.alloc (.cells #[.int .i64 n, .int .i64 k, .bool has, .slice Am nm cm, .int .i64 st] 26)) (.cells #[.int .i64 0, .int .i64 0, .bool false, .slice none 0 0, .int .i64 0] 26); unfold Hid; simpa using this
  have x0 : W0.cell? ⟨X, 0, none⟩ = some (.int .i64 n) := by rw [(row_cell HX0.out 0).1]; rfl
  have xf0 : W0.frozen? ⟨X, 0, none⟩ = false := (row_cell HX0.out 0).2
  have x1 : W0.cell? ⟨X, 1, none⟩ = some (.int .i64 k) := by rw [(row_cell HX0.out 1).1]; rfl
  have xf1 : W0.frozen? ⟨X, 1, none⟩ = false := (row_cell HX0.out 1).2
  have x2 : W0.cell? ⟨X, 2, none⟩ = some (.bool has) := by rw [(row_cell HX0.out 2).1]; rfl
  have xf2 : W0.frozen? ⟨X, 2, none⟩ = false := (row_cell HX0.out 2).2
  have x3 : W0.cell? ⟨X, 3, none⟩ = some (.slice Am nm cm) := by rw [(row_cell HX0.out 3).1]; rfl
  have xf3 : W0.frozen? ⟨X, 3, none⟩ = false := (row_cell HX0.out 3).2
  have x4 : W0.cell? ⟨X, 4, none⟩ = some (.int .i64 st) := by rw [(row_cell HX0.out 4).1]; rfl
  have xf4 : W0.frozen? ⟨X, 4, none⟩ = false := (row_cell HX0.out 4).2
  have y0 : W0.cell? ⟨X + 1, 0, none⟩ = some (.int .i64 0) := by rw [(row_cell HY0.out 0).1]; rfl
  have yf0 : W0.frozen? ⟨X + 1, 0, none⟩ = false := (row_cell HY0.out 0).2
  have y1 : W0.cell? ⟨X + 1, 1, none⟩ = some (.int .i64 0) := by rw [(row_cell HY0.out 1).1]; rfl
  have yf1 : W0.frozen? ⟨X + 1, 1, none⟩ = false := (row_cell HY0.out 1).2
  have y2 : W0.cell? ⟨X + 1, 2, none⟩ = some (.bool false) := by rw [(row_cell HY0.out 2).1]; rfl
  have yf2 : W0.frozen? ⟨X + 1, 2, none⟩ = false := (row_cell HY0.out 2).2
  have y3 : W0.cell? ⟨X + 1, 3, none⟩ = some (.slice none 0 0) := by rw [(row_cell HY0.out 3).1]; rfl
  have yf3 : W0.frozen? ⟨X + 1, 3, none⟩ = false := (row_cell HY0.out 3).2
  have y4 : W0.cell? ⟨X + 1, 4, none⟩ = some (.int .i64 0) := by rw [(row_cell HY0.out 4).1]; rfl
  have yf4 : W0.frozen? ⟨X + 1, 4, none⟩ = false := (row_cell HY0.out 4).2
  have TB := Lib.hid (rtick_any t W0)
  rw [decide_eq_true ht] at TB
  have RD : Hid (Reads W0 W0.heap.size 1 Ak nk (CU K)) := ((hv.belowP (by rw [hX]; exact B0.out)).st.reads).2
  have HN := Lib.hid hn
  rw [hX]
  have hgt : ¬ n < (nk : Int) := by omega
  have hgt' : decide (n < (nk : Int)) = false := by simpa using hgt
  clear ht hk hn hv
  go_enter Try.func25, Try.ntmps25
  go_wp2_with fail
  refine TB.out.mono ?_
  rintro e w1 ⟨rfl, hw⟩
  have hw := hw.symm
  subst hw
  go_wp2_with (at_builtin; refine wpList_append_any _ rfl (.tmp 18) (.tmp 19) _ rfl W0.heap.size 55 i0 _ 1 4 Try.underlying24 hi hz0 hz1 hz2 rfl (by omega) (.slice (some ⟨W0.heap.size, 0, none⟩) 0 0) 0 [] rfl (rowU_new W0) W0.heap.size Ak nk ck (CU K) rfl (RD.out.alloc (Nat.le_refl _) _) (CU_one _) ?c2 ?c3 ?c4 ?_)
  case c2 => have := HN.out; unfold maxLen; omega
  case c3 => have := HN.out; omega
  case c4 => simp
  intro v2 w5 hown hgrow hblk
  have hown : w5.ownsRow W0.heap.size 55 1 v2 nk (CU K) := by simpa using hown
  obtain ⟨A2, c2, rfl⟩ := slice_form hown
  have hgb : ∀ b, b < W0.heap.size → w5.heap[b]? = W0.heap[b]? := fun b hb => (hgrow.block b (by simp; omega) (fun e => by injection e with e; have e' : b = W0.heap.size := e; omega)).trans (heap_old _ b hb)
  have B5 : Hid (Below X w w5) := B0.out.trans (((Below.refl _ _).alloc (Nat.le_refl _) _).grown hgrow (by simp) (fun q hq => by have h' : some W0.heap.size = some q := hq; injection h' with h'; omega) |>.mono (by have := S0.out; omega))
  have X5 : Hid (w5.heap[X]? = some (.cells #[.int .i64 n, .int .i64 k, .bool has, .slice Am nm cm, .int .i64 st] 26 (0, 0))) := (hgb X (by have := S0.out; omega)).trans HX0.out
  have Y5 : Hid (w5.heap[X + 1]? = some (.cells #[.int .i64 0, .int .i64 0, .bool false, .slice none 0 0, .int .i64 0] 26 (0, 0))) := (hgb (X + 1) (by have := S0.out; omega)).trans HY0.out
  obtain ⟨W3, hW3⟩ : ∃ W3, (((w5.setCell ⟨X, 2, none⟩ (.bool true)).setCell ⟨X, 3, none⟩ (.slice A2 nk c2)).setCell ⟨X, 4, none⟩ (.int .i64 t)) = W3 := ⟨_, rfl⟩
  have X3 : Hid (W3.heap[X]? = some (.cells #[.int .i64 n, .int .i64 k, .bool true, .slice A2 nk c2, .int .i64 t] 26 (0, 0))) := by rw [← hW3]; exact set_at (set_at (set_at X5.out 2 _) 3 _) 4 _
  have Y3 : Hid (W3.heap[X + 1]? = some (.cells #[.int .i64 0, .int .i64 0, .bool false, .slice none 0 0, .int .i64 0] 26 (0, 0))) := by rw [← hW3]; exact (set_far 4 _ (by omega)).trans ((set_far 3 _ (by omega)).trans ((set_far 2 _ (by omega)).trans Y5.out))
  have B3 : Hid (Below X w W3) := by rw [← hW3]; exact ((B5.out.setCell (Nat.le_refl _) _).setCell (Nat.le_refl _) _).setCell (Nat.le_refl _) _
  have O3 : Hid (Ow 55 W3 (fun b => W0.heap.size ≤ b) (.slice A2 nk c2) nk (CU K)) := by
    rw [← hW3]
    exact ((Ow.of_own hown).keep (by simp) (fun b _ hb => by have := S0.out; rw [set_far _ _ (by omega), set_far _ _ (by omega), set_far _ _ (by omega)])).imp fun b _ h => h.2
  clear hown hgrow hblk hgb x0 xf0 x1 xf1 x2 xf2 x3 xf3 x4 xf4 y0 yf0 y1 yf1 y2 yf2 y3 yf3 y4 yf4
  have p0 : w5.cell? ⟨X, 0, none⟩ = some (.int .i64 n) := by rw [(row_cell X5.out 0).1]; rfl
  have pf0 : w5.frozen? ⟨X, 0, none⟩ = false := (row_cell X5.out 0).2
  have p1 : w5.cell? ⟨X, 1, none⟩ = some (.int .i64 k) := by rw [(row_cell X5.out 1).1]; rfl
  have pf1 : w5.frozen? ⟨X, 1, none⟩ = false := (row_cell X5.out 1).2
  have p2 : w5.cell? ⟨X, 2, none⟩ = some (.bool has) := by rw [(row_cell X5.out 2).1]; rfl
  have pf2 : w5.frozen? ⟨X, 2, none⟩ = false := (row_cell X5.out 2).2
  have p3 : w5.cell? ⟨X, 3, none⟩ = some (.slice Am nm cm) := by rw [(row_cell X5.out 3).1]; rfl
  have pf3 : w5.frozen? ⟨X, 3, none⟩ = false := (row_cell X5.out 3).2
  have p4 : w5.cell? ⟨X, 4, none⟩ = some (.int .i64 st) := by rw [(row_cell X5.out 4).1]; rfl
  have pf4 : w5.frozen? ⟨X, 4, none⟩ = false := (row_cell X5.out 4).2
  have r0 : W3.cell? ⟨X, 0, none⟩ = some (.int .i64 n) := by rw [(row_cell X3.out 0).1]; rfl
  have rf0 : W3.frozen? ⟨X, 0, none⟩ = false := (row_cell X3.out 0).2
  have r1 : W3.cell? ⟨X, 1, none⟩ = some (.int .i64 k) := by rw [(row_cell X3.out 1).1]; rfl
  have rf1 : W3.frozen? ⟨X, 1, none⟩ = false := (row_cell X3.out 1).2
  have r2 : W3.cell? ⟨X, 2, none⟩ = some (.bool true) := by rw [(row_cell X3.out 2).1]; rfl
  have rf2 : W3.frozen? ⟨X, 2, none⟩ = false := (row_cell X3.out 2).2
  have r3 : W3.cell? ⟨X, 3, none⟩ = some (.slice A2 nk c2) := by rw [(row_cell X3.out 3).1]; rfl
  have rf3 : W3.frozen? ⟨X, 3, none⟩ = false := (row_cell X3.out 3).2
  have r4 : W3.cell? ⟨X, 4, none⟩ = some (.int .i64 t) := by rw [(row_cell X3.out 4).1]; rfl
  have rf4 : W3.frozen? ⟨X, 4, none⟩ = false := (row_cell X3.out 4).2
  have s0 : W3.cell? ⟨X + 1, 0, none⟩ = some (.int .i64 0) := by rw [(row_cell Y3.out 0).1]; rfl
  have sf0 : W3.frozen? ⟨X + 1, 0, none⟩ = false := (row_cell Y3.out 0).2
  have s1 : W3.cell? ⟨X + 1, 1, none⟩ = some (.int .i64 0) := by rw [(row_cell Y3.out 1).1]; rfl
  have sf1 : W3.frozen? ⟨X + 1, 1, none⟩ = false := (row_cell Y3.out 1).2
  have s2 : W3.cell? ⟨X + 1, 2, none⟩ = some (.bool false) := by rw [(row_cell Y3.out 2).1]; rfl
  have sf2 : W3.frozen? ⟨X + 1, 2, none⟩ = false := (row_cell Y3.out 2).2
  have s3 : W3.cell? ⟨X + 1, 3, none⟩ = some (.slice none 0 0) := by rw [(row_cell Y3.out 3).1]; rfl
  have sf3 : W3.frozen? ⟨X + 1, 3, none⟩ = false := (row_cell Y3.out 3).2
  have s4 : W3.cell? ⟨X + 1, 4, none⟩ = some (.int .i64 0) := by rw [(row_cell Y3.out 4).1]; rfl
  have sf4 : W3.frozen? ⟨X + 1, 4, none⟩ = false := (row_cell Y3.out 4).2
  go_wp2_with fail
  refine bodyPost_ret (results_cell_tmp rfl _ _ (X + 1) _ _ rfl (set_five Y3.out _ _ _ _ _) Try.underlying26 rfl (by kernel_rfl)) rfl ?_
  have hf : Fo (fun b => b = X + 1) W3 (((((W3.setCell ⟨X + 1, 0, none⟩ (.int .i64 n)).setCell ⟨X + 1, 1, none⟩ (.int .i64 k)).setCell ⟨X + 1, 2, none⟩ (.bool true)).setCell ⟨X + 1, 3, none⟩ (.slice A2 nk c2)).setCell ⟨X + 1, 4, none⟩ (.int .i64 t)) := (((((Fo.refl (fun b => b = X + 1) W3).setCell (.inl rfl) 0 _).setCell (.inl rfl) 1 _).setCell (.inl rfl) 2 _).setCell (.inl rfl) 3 _).setCell (.inl rfl) 4 _
  have O4 := O3.out.fo hf (fun b hb e => by have := S0.out; omega)
  refine ⟨A2, c2, rfl, ⟨O4.own.1, ?_⟩, (((((B3.out.setCell (by exact Nat.le_succ _) _).setCell (by exact Nat.le_succ _) _).setCell (by exact Nat.le_succ _) _).setCell (by exact Nat.le_succ _) _).setCell (by exact Nat.le_succ _) _)⟩
  exact O4.own.2.imp id fun ⟨g, cap, cur, h1, _, h3⟩ => ⟨g, cap, cur, h1, by have := (O4.at_ g (by rw [h1]; rfl)).1; have := S0.out; omega, h3⟩
set_option maxRecDepth 100000 in
set_option maxHeartbeats 4000000 in
theorem rread_bad (n k : Int) (has : Bool) (Am : Option Addr) (nm cm : Nat) (st : Int) (t : Int) (w : World) (ht : ¬ tk t) :
    Calls Try.prog 26 #[.agg #[.int .i64 n, .int .i64 k, .bool has, .slice Am nm cm, .int .i64 st], .int .i64 t] w fun e w' => e = .returned (.tuple #[.slice none 0 0, .bool false, .int .i64 1]) ∧ Below w.heap.size w w' := by
  obtain ⟨X, hX⟩ : ∃ X, w.heap.size = X := ⟨_, rfl⟩
  obtain ⟨W0, hW0⟩ : ∃ W0, w.alloc (.cells #[.int .i64 n, .int .i64 k, .bool has, .slice Am nm cm, .int .i64 st] 26) = W0 := ⟨_, rfl⟩
  have B0 : Hid (Below X w W0) := by rw [← hW0, ← hX]; exact ((Below.refl _ _).alloc (Nat.le_refl _) _)
  have S0 : Hid (W0.heap.size = X + 1) := by unfold Hid; rw [← hW0, ← hX]; simp
  have HX0 : Hid (W0.heap[X]? = some (.cells #[.int .i64 n, .int .i64 k, .bool has, .slice Am nm cm, .int .i64 st] 26 (0, 0))) := by
    rw [← hW0, ← hX]; exact heap_alloc_new _ _
  have TB := Lib.hid (rtick_any t W0)
  rw [decide_eq_false ht] at TB
  rw [hX]
  clear ht
  go_enter Try.func26, Try.ntmps26
  go_wp2_with fail
  refine TB.out.mono ?_
  rintro e w1 ⟨rfl, hw⟩
  have hw := hw.symm
  subst hw
  go_wp2_with fail
  go_ret3
  exact ⟨rfl, B0.out⟩
set_option maxRecDepth 100000 in
set_option maxHeartbeats 4000000 in
theorem rread_none (n k : Int) (has : Bool) (Am : Option Addr) (nm cm : Nat) (st : Int) (t : Int) (w : World) (ht : tk t) (hh : has = false) :
    Calls Try.prog 26 #[.agg #[.int .i64 n, .int .i64 k, .bool has, .slice Am nm cm, .int .i64 st], .int .i64 t] w fun e w' => e = .returned (.tuple #[.slice none 0 0, .bool false, .int .i64 9]) ∧ Below w.heap.size w w' := by
  subst hh
  obtain ⟨X, hX⟩ : ∃ X, w.heap.size = X := ⟨_, rfl⟩
  obtain ⟨W0, hW0⟩ : ∃ W0, w.alloc (.cells #[.int .i64 n, .int .i64 k, .bool false, .slice Am nm cm, .int .i64 st] 26) = W0 := ⟨_, rfl⟩
  have B0 : Hid (Below X w W0) := by rw [← hW0, ← hX]; exact ((Below.refl _ _).alloc (Nat.le_refl _) _)
  have S0 : Hid (W0.heap.size = X + 1) := by unfold Hid; rw [← hW0, ← hX]; simp
  have HX0 : Hid (W0.heap[X]? = some (.cells #[.int .i64 n, .int .i64 k, .bool false, .slice Am nm cm, .int .i64 st] 26 (0, 0))) := by
    rw [← hW0, ← hX]; exact heap_alloc_new _ _
  have x0 : W0.cell? ⟨X, 0, none⟩ = some (.int .i64 n) := by rw [(row_cell HX0.out 0).1]; rfl
  have xf0 : W0.frozen? ⟨X, 0, none⟩ = false := (row_cell HX0.out 0).2
  have x1 : W0.cell? ⟨X, 1, none⟩ = some (.int .i64 k) := by rw [(row_cell HX0.out 1).1]; rfl
  have xf1 : W0.frozen? ⟨X, 1, none⟩ = false := (row_cell HX0.out 1).2
  have x2 : W0.cell? ⟨X, 2, none⟩ = some (.bool false) := by rw [(row_cell HX0.out 2).1]; rfl
  have xf2 : W0.frozen? ⟨X, 2, none⟩ = false := (row_cell HX0.out 2).2
  have x3 : W0.cell? ⟨X, 3, none⟩ = some (.slice Am nm cm) := by rw [(row_cell HX0.out 3).1]; rfl
  have xf3 : W0.frozen? ⟨X, 3, none⟩ = false := (row_cell HX0.out 3).2
  have x4 : W0.cell? ⟨X, 4, none⟩ = some (.int .i64 st) := by rw [(row_cell HX0.out 4).1]; rfl
  have xf4 : W0.frozen? ⟨X, 4, none⟩ = false := (row_cell HX0.out 4).2
  have TB := Lib.hid (rtick_any t W0)
  rw [decide_eq_true ht] at TB
  rw [hX]
  clear ht
  go_enter Try.func26, Try.ntmps26
  go_wp2_with fail
  refine TB.out.mono ?_
  rintro e w1 ⟨rfl, hw⟩
  have hw := hw.symm
  subst hw
  go_wp2_with fail
  go_ret3
  exact ⟨rfl, B0.out⟩
set_option maxRecDepth 100000 in
set_option maxHeartbeats 4000000 in
theorem rread_ok (n k : Int) (has : Bool) (Am : Option Addr) (nm cm : Nat) (st : Int) (P : Nat → Prop) (M : List Int) (t : Int) (w : World) (ht : tk t) (hh : has = true) (hv : Sq w P (.slice Am nm cm) nm (CU M)) (hn : nm ≤ 40) (hs : 0 ≤ st + k ∧ st + k ≤ 4503599627370496) :
    Calls Try.prog 26 #[.agg #[.int .i64 n, .int .i64 k, .bool has, .slice Am nm cm, .int .i64 st], .int .i64 t] w fun e w' => ∃ r, e = .returned (.tuple #[r, .bool (decide (t ≤ st + k)), .int .i64 0]) ∧ w'.ownsRow w.heap.size 55 1 r nm (CU M) ∧ Below w.heap.size w w' := by
  obtain ⟨i0, hi, hz0, hz1, hz2⟩ := info_of u32_info
  subst hh
  obtain ⟨X, hX⟩ : ∃ X, w.heap.size = X := ⟨_, rfl⟩
  obtain ⟨W0, hW0⟩ : ∃ W0, w.alloc (.cells #[.int .i64 n, .int .i64 k, .bool true, .slice Am nm cm, .int .i64 st] 26) = W0 := ⟨_, rfl⟩
  have B0 : Hid (Below X w W0) := by rw [← hW0, ← hX]; exact ((Below.refl _ _).alloc (Nat.le_refl _) _)
  have S0 : Hid (W0.heap.size = X + 1) := by unfold Hid; rw [← hW0, ← hX]; simp
  have HX0 : Hid (W0.heap[X]? = some (.cells #[.int .i64 n, .int .i64 k, .bool true, .slice Am nm cm, .int .i64 st] 26 (0, 0))) := by
    rw [← hW0, ← hX]; exact heap_alloc_new _ _
  have x0 : W0.cell? ⟨X, 0, none⟩ = some (.int .i64 n) := by rw [(row_cell HX0.out 0).1]; rfl
  have xf0 : W0.frozen? ⟨X, 0, none⟩ = false := (row_cell HX0.out 0).2
  have x1 : W0.cell? ⟨X, 1, none⟩ = some (.int .i64 k) := by rw [(row_cell HX0.out 1).1]; rfl
  have xf1 : W0.frozen? ⟨X, 1, none⟩ = false := (row_cell HX0.out 1).2
  have x2 : W0.cell? ⟨X, 2, none⟩ = some (.bool true) := by rw [(row_cell HX0.out 2).1]; rfl
  have xf2 : W0.frozen? ⟨X, 2, none⟩ = false := (row_cell HX0.out 2).2
  have x3 : W0.cell? ⟨X, 3, none⟩ = some (.slice Am nm cm) := by rw [(row_cell HX0.out 3).1]; rfl
  have xf3 : W0.frozen? ⟨X, 3, none⟩ = false := (row_cell HX0.out 3).2
  have x4 : W0.cell? ⟨X, 4, none⟩ = some (.int .i64 st) := by rw [(row_cell HX0.out 4).1]; rfl
  have xf4 : W0.frozen? ⟨X, 4, none⟩ = false := (row_cell HX0.out 4).2
  have TB := Lib.hid (rtick_any t W0)
  rw [decide_eq_true ht] at TB
  have RD : Hid (Reads W0.drew W0.drew.heap.size 1 Am nm (CU M)) := ((hv.belowP (by rw [hX]; exact B0.out.drew)).st.reads).2
  have HN := Lib.hid hn
  have HWR : Hid (IntKind.i64.wrap (st + k) = st + k) := by unfold Hid; rw [IntKind.wrap_i64]; omega
  rw [hX]
  clear ht hn hv hs
  go_enter Try.func26, Try.ntmps26
  go_wp2_with fail
  refine TB.out.mono ?_
  rintro e w1 ⟨rfl, hw⟩
  have hw := hw.symm
  subst hw
  go_wp2_with fail
  refine wp_region_held_drew (S := (fun w' => w'.cell? ⟨X, 1, none⟩ = some (.int .i64 k) ∧ w'.cell? ⟨X, 3, none⟩ = some (.slice Am nm cm) ∧ w'.cell? ⟨X, 4, none⟩ = some (.int .i64 st))) (by kernel_rfl) ?_ (fun hHeld => ?_)
  · exact ⟨x1, x3, x4⟩
  refine takeD (i := 1) (d := some 14) (v := ?_) _ rfl rfl (by kernel_rfl) (by kernel_rfl) (by kernel_rfl) (fun _ _ _ h => h) (by rfl) ?_ (by assumption) ?_
  rotate_left
  · (intro w hSw; (try dsimp only at hSw); go_simp) <;> with_reducible rfl
  try simp only [Act.put, List.setIfInBounds_toArray, List.set_cons_zero, List.set_cons_succ]
  refine takeD (i := 2) (d := some 15) (v := ?_) _ rfl rfl (by kernel_rfl) (by kernel_rfl) (by kernel_rfl) (fun _ _ _ h => h) (by rfl) ?_ (by assumption) ?_
  rotate_left
  · (intro w hSw; (try dsimp only at hSw); go_simp) <;> with_reducible rfl
  try simp only [Act.put, List.setIfInBounds_toArray, List.set_cons_zero, List.set_cons_succ]
  refine takeD (i := 4) (d := some 17) (v := ?_) _ rfl rfl (by kernel_rfl) (by kernel_rfl) (by kernel_rfl) (fun _ _ _ h => h) (by rfl) ?_ (by assumption) ?_
  rotate_left
  · (intro w hSw; (try dsimp only at hSw); go_simp) <;> with_reducible rfl
  try simp only [Act.put, List.setIfInBounds_toArray, List.set_cons_zero, List.set_cons_succ]
  refine takeD (i := 5) (d := some 18) (v := ?_) _ rfl rfl (by kernel_rfl) (by kernel_rfl) (by kernel_rfl) (fun _ _ _ h => h) (by rfl) ?_ (by assumption) ?_
  rotate_left
  · (intro w hSw; (try dsimp only at hSw); go_simp) <;> with_reducible rfl
  try simp only [Act.put, List.setIfInBounds_toArray, List.set_cons_zero, List.set_cons_succ]
  refine takeD (i := 6) (d := some 19) (v := ?_) _ rfl rfl (by kernel_rfl) (by kernel_rfl) (by kernel_rfl) (fun _ _ _ h => h) (by rfl) ?_ (by assumption) ?_
  rotate_left
  · (intro w hSw; (try dsimp only at hSw); go_simp) <;> with_reducible rfl
  try simp only [Act.put, List.setIfInBounds_toArray, List.set_cons_zero, List.set_cons_succ]
  refine takeD (i := 7) (d := some 20) (v := ?_) _ rfl rfl (by kernel_rfl) (by kernel_rfl) (by kernel_rfl) (fun _ _ _ h => h) (by rfl) ?_ (by assumption) ?_
  rotate_left
  · (intro w hSw; (try dsimp only at hSw); go_simp) <;> with_reducible rfl
  try simp only [Act.put, List.setIfInBounds_toArray, List.set_cons_zero, List.set_cons_succ]
  refine takeD (i := 8) (d := some 21) (v := ?_) _ rfl rfl (by kernel_rfl) (by kernel_rfl) (by kernel_rfl) (fun _ _ _ h => h) (by rfl) ?_ (by assumption) ?_
  rotate_left
  · (intro w hSw; (try dsimp only at hSw); go_simp) <;> with_reducible rfl
  try simp only [Act.put, List.setIfInBounds_toArray, List.set_cons_zero, List.set_cons_succ]
  refine takeD (i := 9) (d := some 22) (v := ?_) _ rfl rfl (by kernel_rfl) (by kernel_rfl) (by kernel_rfl) (fun _ _ _ h => h) (by rfl) ?_ (by assumption) ?_
  rotate_left
  · (intro w hSw; (try dsimp only at hSw); go_simp) <;> with_reducible rfl
  try simp only [Act.put, List.setIfInBounds_toArray, List.set_cons_zero, List.set_cons_succ]
  refine takeD (i := 10) (d := some 23) (v := ?_) _ rfl rfl (by kernel_rfl) (by kernel_rfl) (by kernel_rfl) (fun _ _ _ h => h) (by rfl) ?_ (by assumption) ?_
  rotate_left
  · (intro w hSw; (try dsimp only at hSw); go_simp) <;> with_reducible rfl
  try simp only [Act.put, List.setIfInBounds_toArray, List.set_cons_zero, List.set_cons_succ]
  refine wpAnyH_ready (rs := [0]) (by kernel_rfl) (by simp) ?_
  refine AllReadyH.cons rfl (fun K hK => ?_) AllReadyH.nil
  try go_simp
  refine hK.out _ _ ⟨cell_al _ hHeld.1, cell_al _ hHeld.2.1, cell_al _ hHeld.2.2⟩ (fun hHeld => ?_)
  clear hK K
  try simp only [Act.put, List.getElem_toArray, List.getElem_cons_succ, List.getElem_cons_zero, List.setIfInBounds_toArray, List.set_cons_zero, List.set_cons_succ]
  refine wpAnyH_ready (rs := [3]) (by kernel_rfl) (by simp) ?_
  refine AllReadyH.cons rfl (fun K hK => ?_) AllReadyH.nil
  refine wp_append_any _ (.tmp 13) (.tmp 15) _ rfl W0.drew.heap.size 55 i0 _ 1 4 Try.underlying24 hi hz0 hz1 hz2 rfl (by omega) (.slice (some ⟨W0.drew.heap.size, 0, none⟩) 0 0) 0 [] rfl (rowU_new W0.drew) W0.drew.heap.size Am nm cm (CU M) rfl (RD.out.alloc (Nat.le_refl _) _) (CU_one _) ?c2 ?c3 ?c4 ?_
  case c2 => have := HN.out; unfold maxLen; omega
  case c3 => have := HN.out; omega
  case c4 => simp
  intro v2 w5 hown hgrow hblk
  have hown : w5.ownsRow W0.heap.size 55 1 v2 nm (CU M) := by simpa using hown
  have hgb : ∀ b, b < W0.heap.size → w5.heap[b]? = W0.heap[b]? := fun b hb => (hgrow.block b (show b < (W0.alloc (.cells #[] 55)).heap.size by simp; omega) (fun e => by have e' : some b = some W0.heap.size := e; injection e' with e'; omega)).trans (heap_old (w := W0) _ b hb)
  have hWd : Below W0.heap.size W0 (W0.alloc (.cells #[] 55)).drew := ((Below.refl _ _).alloc (Nat.le_refl _) _).drew
  have B5 : Hid (Below X w w5) := B0.out.trans ((hWd.grown hgrow hWd.size (fun q hq => by have h' : some W0.heap.size = some q := hq; injection h' with h'; omega)).mono (by have := S0.out; omega))
  have X5 : Hid (w5.heap[X]? = some (.cells #[.int .i64 n, .int .i64 k, .bool true, .slice Am nm cm, .int .i64 st] 26 (0, 0))) := (hgb X (by have := S0.out; omega)).trans HX0.out
  have HO := Lib.hid hown
  have q1 : w5.cell? ⟨X, 1, none⟩ = some (.int .i64 k) := by rw [(row_cell X5.out 1).1]; rfl
  have q3 : w5.cell? ⟨X, 3, none⟩ = some (.slice Am nm cm) := by rw [(row_cell X5.out 3).1]; rfl
  have q4 : w5.cell? ⟨X, 4, none⟩ = some (.int .i64 st) := by rw [(row_cell X5.out 4).1]; rfl
  clear hown hgrow hblk hgb
  refine hK.out _ _ ⟨q1, q3, q4⟩ (fun hHeld => ?_)
  clear hK K
  try simp only [Act.put, List.getElem_toArray, List.getElem_cons_succ, List.getElem_cons_zero, List.setIfInBounds_toArray, List.set_cons_zero, List.set_cons_succ]
  refine takeD (i := 11) (d := some 4) (v := ?_) _ rfl rfl (by kernel_rfl) (by kernel_rfl) (by kernel_rfl) (fun _ _ _ h => h) (by rfl) ?_ (by assumption) ?_
  rotate_left
  · (intro w hSw; (try dsimp only at hSw); go_simp) <;> with_reducible rfl
  try simp only [Act.put, List.setIfInBounds_toArray, List.set_cons_zero, List.set_cons_succ]
  refine takeD (i := 12) (d := some 5) (v := ?_) _ rfl rfl (by kernel_rfl) (by kernel_rfl) (by kernel_rfl) (fun _ _ _ h => h) (by rfl) ?_ (by assumption) ?_
  rotate_left
  · (intro w hSw; (try dsimp only at hSw); go_simp) <;> with_reducible rfl
  try simp only [Act.put, List.setIfInBounds_toArray, List.set_cons_zero, List.set_cons_succ]
  refine takeD (i := 13) (d := some 6) (v := ?_) _ rfl rfl (by kernel_rfl) (by kernel_rfl) (by kernel_rfl) (fun _ _ _ h => h) (by rfl) ?_ (by assumption) ?_
  rotate_left
  · (intro w hSw; (try dsimp only at hSw); go_simp) <;> with_reducible rfl
  try simp only [Act.put, List.setIfInBounds_toArray, List.set_cons_zero, List.set_cons_succ]
  refine wpAnyH_done (by kernel_rfl) ?_ _
  clear hHeld x0 xf0 x1 xf1 x2 xf2 x3 xf3 x4 xf4 q1 q3 q4
  go_wp2_with fail
  go_ret3
  have O := HO.out
  refine ⟨_, by rw [HWR.out]; rfl, ⟨O.1, ?_⟩, B5.out⟩
  exact O.2.imp id fun ⟨g, cap, cur, h1, h2, h3⟩ => ⟨g, cap, cur, h1, by have := S0.out; have h7 : W0.heap.size ≤ g := h2; omega, h3⟩
end Go.Proofs.Ytmodkfboolmckaa.Sa
