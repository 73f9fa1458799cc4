/-
  slices.Equal, slices.Clone. Each statement bears its own conditions.
-/
import Derived.Test.YtbnnpfhgpbaedaaPlC
import Derived.Laws.StructEq
namespace Go.Proofs.Ytbnnpfhgpbaedaa.W
open Go.RowKit
set_option linter.unusedVariables false
set_option linter.unusedSimpArgs false
theorem neq60 (a b c d : Int) (w : World) : (binOp .neq 76 (.agg #[.int .i64 a, .int .i64 b]) (.agg #[.int .i64 c, .int .i64 d])).run Try.prog w = .ok (.bool (!(a == c && b == d))) w := by
  have u3 := Try.underlying3
  have a3 := Try.isAgg3
  have z3 := Try.sizeOf3
  have hS : Try.prog.underlying 76 = some (.struct (Try.prog.fieldsOf 76)) := by kernel_rfl
  have hp : Try.prog.stoodInHeld 76 = false := by kernel_rfl
  simp only [binOp, Op.equal, Op.maxDepth]
  rw [show (10000 : Nat) = 9999 + 1 from rfl]
  simp only [Sem.run_bind]
  rw [run_equalIn_agg w 9999 76 _ _ hS hp]
  simp only [Program.fieldsOf, Try.underlying76]
  go_simp
  by_cases h1 : a = c <;> by_cases h2 : b = d <;> simp [h1, h2]
structure ERel (L M : List (Int × Int)) (n : Nat) (w : World) (iv : Value) (wr : World) : Prop where
  ex : ∃ j : Nat, j ≤ n ∧ iv = .int .i64 (j : Int) ∧ L.take j = M.take j ∧ Below w.heap.size w wr
theorem take_getD {L : List (Int × Int)} {j : Nat} (h : j < L.length) : L.take (j + 1) = L.take j ++ [L.getD j (0, 0)] := by
  rw [List.take_add_one]; simp [List.getD_eq_getElem?_getD, List.getElem?_eq_getElem h]
set_option maxRecDepth 100000 in
set_option maxHeartbeats 1000000 in
theorem equal_any (v v' : Value) (rb rb' : Nat) (L M : List (Int × Int)) (w : World) (hr : RowV w v rb L) (hr' : RowV w v' rb' M) (hL : L.length ≤ 1000) (hM : M.length ≤ 1000) :
    Calls Try.prog 49 #[v, v'] w fun e w' => e = .returned (.bool (decide (L = M))) ∧ Below w.heap.size w w' := by
  obtain ⟨A, c, rfl, hc⟩ := hr.slice
  obtain ⟨A', c', rfl, hc'⟩ := hr'.slice
  obtain ⟨n, hn⟩ : ∃ n, L.length = n := ⟨_, rfl⟩
  obtain ⟨m, hm⟩ : ∃ m, M.length = m := ⟨_, rfl⟩
  have HR := Lib.hid hr
  have HR' := Lib.hid hr'
  have HN := Lib.hid hn
  have HM := Lib.hid hm
  have HL : Hid (n ≤ 1000) := by unfold Hid; omega
  rw [hn] at HR hc ⊢
  rw [hm] at HR' hc' ⊢
  clear hr hr' hL hM hn hm
  by_cases hnm : n = m
  · subst hnm
    obtain ⟨eq, heq⟩ : ∃ eq, decide (L = M) = eq := ⟨_, rfl⟩
    have HE := Lib.hid heq
    rw [heq]
    clear heq
    go_enter Try.func49, Try.ntmps49
    go_wp2_with fail
    go_loopw [13] (fun i wr => ERel L M n w i wr) (fun i _ => 1001 - (intOf i).toNat)
    case atStart => exact ⟨⟨0, Nat.zero_le _, rfl, rfl, Below.refl _ _⟩⟩
    case round =>
      obtain ⟨⟨j, hj, rfl, htk, hb⟩⟩ := hrel
      have HB := Lib.hid hb
      have HTK := Lib.hid htk
      clear hb htk
      by_cases hlt : j < n
      · obtain ⟨⟨c1, hv⟩, d0, d1, hrl⟩ := RowV.cells (w := w) (rb := rb) (L := L) HR.out j (by rw [HN.out]; exact hlt)
        obtain ⟨⟨c2, hv'⟩, e0, e1, hrl'⟩ := RowV.cells (w := w) (rb := rb') (L := M) HR'.out j (by rw [HM.out]; exact hlt)
        injection hv with hv _ hcc
        injection hv' with hv' _ hcc'
        subst hv hcc hv' hcc'
        have d0 := cell_later HB.out d0
        have d1 := cell_later HB.out d1
        have e0 := cell_later HB.out e0
        have e1 := cell_later HB.out e1
        have hjI : (j : Int) < (n : Int) := by omega
        have hj2 : (j : Int) < 1000 := by have := HL.out; omega
        have hj1 : Hid (j < 1000) := by unfold Hid; omega
        obtain ⟨a, ha⟩ : ∃ a, Hid ((L.getD j (0, 0)).1 = a) := ⟨_, rfl⟩
        obtain ⟨b, hb⟩ : ∃ b, Hid ((L.getD j (0, 0)).2 = b) := ⟨_, rfl⟩
        obtain ⟨a', ha'⟩ : ∃ a, Hid ((M.getD j (0, 0)).1 = a) := ⟨_, rfl⟩
        obtain ⟨b', hb'⟩ : ∃ b, Hid ((M.getD j (0, 0)).2 = b) := ⟨_, rfl⟩
        rw [ha.out] at d0
        rw [hb.out] at d1
        rw [ha'.out] at e0
        rw [hb'.out] at e1
        have HLT : Hid (j < n) := hlt
        by_cases he : a = a' ∧ b = b'
        · have HT2 : Hid (L.take (j + 1) = M.take (j + 1)) := by
            unfold Hid
            rw [take_getD (by rw [HN.out]; exact hlt), take_getD (by rw [HM.out]; exact hlt), HTK.out]
            congr 2
            exact Prod.ext (by rw [ha.out, ha'.out]; exact he.1) (by rw [hb.out, hb'.out]; exact he.2)
          obtain ⟨rfl, rfl⟩ := he
          clear hj hlt
          go_wp2_with fail
          refine wp_region_held_drew (S := (fun w' => Below wr.heap.size wr w' ∧ w'.cell? ⟨rb, j * 2, none⟩ = some (.int .i64 a) ∧ w'.cell? ⟨rb, j * 2 + 1, none⟩ = some (.int .i64 b) ∧ w'.cell? ⟨rb', j * 2, none⟩ = some (.int .i64 a) ∧ w'.cell? ⟨rb', j * 2 + 1, none⟩ = some (.int .i64 b))) (by kernel_rfl) ?_ (fun hHeld => ?_)
          · exact ⟨(Below.refl _ _).drew, d0, d1, e0, e1⟩
          refine takeD (i := 0) (d := some 16) (v := ?_) _ rfl rfl (by kernel_rfl) (by kernel_rfl) (by kernel_rfl) (fun _ _ _ h => h) (by rfl) ?_ (by assumption) ?_
          rotate_left
          · (intro w hSw; (try dsimp only at hSw); go_simp) <;> with_reducible rfl
          try simp only [Act.put, List.setIfInBounds_toArray, List.set_cons_zero, List.set_cons_succ]
          refine takeD (i := 1) (d := some 17) (v := ?_) _ rfl rfl (by kernel_rfl) (by kernel_rfl) (by kernel_rfl) (fun _ _ _ h => h) (by rfl) ?_ (by assumption) ?_
          rotate_left
          · (intro w hSw; (try dsimp only at hSw); go_simp) <;> with_reducible rfl
          try simp only [Act.put, List.setIfInBounds_toArray, List.set_cons_zero, List.set_cons_succ]
          refine takeD (i := 2) (d := some 18) (v := ?_) _ rfl rfl (by kernel_rfl) (by kernel_rfl) (by kernel_rfl) (fun _ _ _ h => h) (by rfl) ?_ (by assumption) ?_
          rotate_left
          · (intro w hSw; (try dsimp only at hSw); go_simp) <;> with_reducible rfl
          try simp only [Act.put, List.setIfInBounds_toArray, List.set_cons_zero, List.set_cons_succ]
          refine takeD (i := 3) (d := some 19) (v := ?_) _ rfl rfl (by kernel_rfl) (by kernel_rfl) (by kernel_rfl) (fun _ _ _ h => h) (by rfl) ?_ (by assumption) ?_
          rotate_left
          · (intro w hSw; (try dsimp only at hSw); go_simp) <;> with_reducible rfl
          try simp only [Act.put, List.setIfInBounds_toArray, List.set_cons_zero, List.set_cons_succ]
          refine takeD (i := 4) (d := some 20) (v := ?_) _ rfl rfl (by kernel_rfl) (by kernel_rfl) (by kernel_rfl) (fun _ _ _ h => h) (by rfl) ?_ (by assumption) ?_
          rotate_left
          · (intro w hSw; (try dsimp only at hSw); go_simp) <;> with_reducible rfl
          try simp only [Act.put, List.setIfInBounds_toArray, List.set_cons_zero, List.set_cons_succ]
          refine takeD (i := 5) (d := some 21) (v := ?_) _ rfl rfl (by kernel_rfl) (by kernel_rfl) (by kernel_rfl) (fun _ _ _ h => h) (by rfl) ?_ (by assumption) ?_
          rotate_left
          · (intro w hSw; (try dsimp only at hSw); go_simp) <;> with_reducible rfl
          try simp only [Act.put, List.setIfInBounds_toArray, List.set_cons_zero, List.set_cons_succ]
          refine takeD (i := 6) (d := some 22) (v := ?_) _ rfl rfl (by kernel_rfl) (by kernel_rfl) (by kernel_rfl) (fun _ _ _ h => h) (by rfl) ?_ (by assumption) ?_
          rotate_left
          · (intro w hSw; (try dsimp only at hSw); go_simp) <;> with_reducible rfl
          try simp only [Act.put, List.setIfInBounds_toArray, List.set_cons_zero, List.set_cons_succ]
          refine takeD (i := 7) (d := some 23) (v := ?_) _ rfl rfl (by kernel_rfl) (by kernel_rfl) (by kernel_rfl) (fun _ _ _ h => h) (by rfl) ?_ (by assumption) ?_
          rotate_left
          · (intro w hSw; (try dsimp only at hSw); go_simp) <;> with_reducible rfl
          try simp only [Act.put, List.setIfInBounds_toArray, List.set_cons_zero, List.set_cons_succ]
          refine takeD (i := 8) (d := some 24) (v := ?_) _ rfl rfl (by kernel_rfl) (by kernel_rfl) (by kernel_rfl) (fun _ _ _ h => h) (by rfl) ?_ (by assumption) ?_
          rotate_left
          · (intro w hSw; (try dsimp only at hSw); go_simp) <;> with_reducible rfl
          try simp only [Act.put, List.setIfInBounds_toArray, List.set_cons_zero, List.set_cons_succ]
          refine wpAnyH_done (by kernel_rfl) ?_ _
          have HB2 := Lib.hid (HB.out.trans (hHeld.1.mono HB.out.size))
          clear hHeld
          go_wp2_with fail
          go_roundw
          case rel => first | exact ⟨⟨j + 1, HLT.out, by go_num, HT2.out, HB2.out⟩⟩ | ((repeat apply Exists.intro); exact ⟨⟨⟨j + 1, HLT.out, by go_num, HT2.out, HB2.out⟩⟩, rfl⟩)
          case measure => have := hj1.out; simp [intOf]; omega
        · have HF : Hid (eq = false) := by
            unfold Hid
            rw [← HE.out, decide_eq_false_iff_not]
            intro h
            apply he
            rw [← ha.out, ← ha'.out, ← hb.out, ← hb'.out, h]
            exact ⟨rfl, rfl⟩
          by_cases h1 : a = a'
          · have h2 : ¬ b = b' := fun h2 => he ⟨h1, h2⟩
            subst h1
            clear he hj hlt
            go_wp2_with fail
            refine wp_region_held_drew (S := (fun w' => Below wr.heap.size wr w' ∧ w'.cell? ⟨rb, j * 2, none⟩ = some (.int .i64 a) ∧ w'.cell? ⟨rb, j * 2 + 1, none⟩ = some (.int .i64 b) ∧ w'.cell? ⟨rb', j * 2, none⟩ = some (.int .i64 a) ∧ w'.cell? ⟨rb', j * 2 + 1, none⟩ = some (.int .i64 b'))) (by kernel_rfl) ?_ (fun hHeld => ?_)
            · exact ⟨(Below.refl _ _).drew, d0, d1, e0, e1⟩
            refine takeD (i := 0) (d := some 16) (v := ?_) _ rfl rfl (by kernel_rfl) (by kernel_rfl) (by kernel_rfl) (fun _ _ _ h => h) (by rfl) ?_ (by assumption) ?_
            rotate_left
            · (intro w hSw; (try dsimp only at hSw); go_simp) <;> with_reducible rfl
            try simp only [Act.put, List.setIfInBounds_toArray, List.set_cons_zero, List.set_cons_succ]
            refine takeD (i := 1) (d := some 17) (v := ?_) _ rfl rfl (by kernel_rfl) (by kernel_rfl) (by kernel_rfl) (fun _ _ _ h => h) (by rfl) ?_ (by assumption) ?_
            rotate_left
            · (intro w hSw; (try dsimp only at hSw); go_simp) <;> with_reducible rfl
            try simp only [Act.put, List.setIfInBounds_toArray, List.set_cons_zero, List.set_cons_succ]
            refine takeD (i := 2) (d := some 18) (v := ?_) _ rfl rfl (by kernel_rfl) (by kernel_rfl) (by kernel_rfl) (fun _ _ _ h => h) (by rfl) ?_ (by assumption) ?_
            rotate_left
            · (intro w hSw; (try dsimp only at hSw); go_simp) <;> with_reducible rfl
            try simp only [Act.put, List.setIfInBounds_toArray, List.set_cons_zero, List.set_cons_succ]
            refine takeD (i := 3) (d := some 19) (v := ?_) _ rfl rfl (by kernel_rfl) (by kernel_rfl) (by kernel_rfl) (fun _ _ _ h => h) (by rfl) ?_ (by assumption) ?_
            rotate_left
            · (intro w hSw; (try dsimp only at hSw); go_simp) <;> with_reducible rfl
            try simp only [Act.put, List.setIfInBounds_toArray, List.set_cons_zero, List.set_cons_succ]
            refine takeD (i := 4) (d := some 20) (v := ?_) _ rfl rfl (by kernel_rfl) (by kernel_rfl) (by kernel_rfl) (fun _ _ _ h => h) (by rfl) ?_ (by assumption) ?_
            rotate_left
            · (intro w hSw; (try dsimp only at hSw); go_simp) <;> with_reducible rfl
            try simp only [Act.put, List.setIfInBounds_toArray, List.set_cons_zero, List.set_cons_succ]
            refine takeD (i := 5) (d := some 21) (v := ?_) _ rfl rfl (by kernel_rfl) (by kernel_rfl) (by kernel_rfl) (fun _ _ _ h => h) (by rfl) ?_ (by assumption) ?_
            rotate_left
            · (intro w hSw; (try dsimp only at hSw); go_simp) <;> with_reducible rfl
            try simp only [Act.put, List.setIfInBounds_toArray, List.set_cons_zero, List.set_cons_succ]
            refine takeD (i := 6) (d := some 22) (v := ?_) _ rfl rfl (by kernel_rfl) (by kernel_rfl) (by kernel_rfl) (fun _ _ _ h => h) (by rfl) ?_ (by assumption) ?_
            rotate_left
            · (intro w hSw; (try dsimp only at hSw); go_simp) <;> with_reducible rfl
            try simp only [Act.put, List.setIfInBounds_toArray, List.set_cons_zero, List.set_cons_succ]
            refine takeD (i := 7) (d := some 23) (v := ?_) _ rfl rfl (by kernel_rfl) (by kernel_rfl) (by kernel_rfl) (fun _ _ _ h => h) (by rfl) ?_ (by assumption) ?_
            rotate_left
            · (intro w hSw; (try dsimp only at hSw); go_simp) <;> with_reducible rfl
            try simp only [Act.put, List.setIfInBounds_toArray, List.set_cons_zero, List.set_cons_succ]
            refine takeD (i := 8) (d := some 24) (v := ?_) _ rfl rfl (by kernel_rfl) (by kernel_rfl) (by kernel_rfl) (fun _ _ _ h => h) (by rfl) ?_ (by assumption) ?_
            rotate_left
            · (intro w hSw; (try dsimp only at hSw); go_simp) <;> with_reducible rfl
            try simp only [Act.put, List.setIfInBounds_toArray, List.set_cons_zero, List.set_cons_succ]
            refine wpAnyH_done (by kernel_rfl) ?_ _
            have HB2 := Lib.hid (HB.out.trans (hHeld.1.mono HB.out.size))
            clear hHeld
            go_wp2_with fail
            go_ret
            exact ⟨by rw [HF.out]; rfl, HB2.out⟩
          · clear he hj hlt
            go_wp2_with fail
            refine wp_region_held_drew (S := (fun w' => Below wr.heap.size wr w' ∧ w'.cell? ⟨rb, j * 2, none⟩ = some (.int .i64 a) ∧ w'.cell? ⟨rb, j * 2 + 1, none⟩ = some (.int .i64 b) ∧ w'.cell? ⟨rb', j * 2, none⟩ = some (.int .i64 a') ∧ w'.cell? ⟨rb', j * 2 + 1, none⟩ = some (.int .i64 b'))) (by kernel_rfl) ?_ (fun hHeld => ?_)
            · exact ⟨(Below.refl _ _).drew, d0, d1, e0, e1⟩
            refine takeD (i := 0) (d := some 16) (v := ?_) _ rfl rfl (by kernel_rfl) (by kernel_rfl) (by kernel_rfl) (fun _ _ _ h => h) (by rfl) ?_ (by assumption) ?_
            rotate_left
            · (intro w hSw; (try dsimp only at hSw); go_simp) <;> with_reducible rfl
            try simp only [Act.put, List.setIfInBounds_toArray, List.set_cons_zero, List.set_cons_succ]
            refine takeD (i := 1) (d := some 17) (v := ?_) _ rfl rfl (by kernel_rfl) (by kernel_rfl) (by kernel_rfl) (fun _ _ _ h => h) (by rfl) ?_ (by assumption) ?_
            rotate_left
            · (intro w hSw; (try dsimp only at hSw); go_simp) <;> with_reducible rfl
            try simp only [Act.put, List.setIfInBounds_toArray, List.set_cons_zero, List.set_cons_succ]
            refine takeD (i := 2) (d := some 18) (v := ?_) _ rfl rfl (by kernel_rfl) (by kernel_rfl) (by kernel_rfl) (fun _ _ _ h => h) (by rfl) ?_ (by assumption) ?_
            rotate_left
            · (intro w hSw; (try dsimp only at hSw); go_simp) <;> with_reducible rfl
            try simp only [Act.put, List.setIfInBounds_toArray, List.set_cons_zero, List.set_cons_succ]
            refine takeD (i := 3) (d := some 19) (v := ?_) _ rfl rfl (by kernel_rfl) (by kernel_rfl) (by kernel_rfl) (fun _ _ _ h => h) (by rfl) ?_ (by assumption) ?_
            rotate_left
            · (intro w hSw; (try dsimp only at hSw); go_simp) <;> with_reducible rfl
            try simp only [Act.put, List.setIfInBounds_toArray, List.set_cons_zero, List.set_cons_succ]
            refine takeD (i := 4) (d := some 20) (v := ?_) _ rfl rfl (by kernel_rfl) (by kernel_rfl) (by kernel_rfl) (fun _ _ _ h => h) (by rfl) ?_ (by assumption) ?_
            rotate_left
            · (intro w hSw; (try dsimp only at hSw); go_simp) <;> with_reducible rfl
            try simp only [Act.put, List.setIfInBounds_toArray, List.set_cons_zero, List.set_cons_succ]
            refine takeD (i := 5) (d := some 21) (v := ?_) _ rfl rfl (by kernel_rfl) (by kernel_rfl) (by kernel_rfl) (fun _ _ _ h => h) (by rfl) ?_ (by assumption) ?_
            rotate_left
            · (intro w hSw; (try dsimp only at hSw); go_simp) <;> with_reducible rfl
            try simp only [Act.put, List.setIfInBounds_toArray, List.set_cons_zero, List.set_cons_succ]
            refine takeD (i := 6) (d := some 22) (v := ?_) _ rfl rfl (by kernel_rfl) (by kernel_rfl) (by kernel_rfl) (fun _ _ _ h => h) (by rfl) ?_ (by assumption) ?_
            rotate_left
            · (intro w hSw; (try dsimp only at hSw); go_simp) <;> with_reducible rfl
            try simp only [Act.put, List.setIfInBounds_toArray, List.set_cons_zero, List.set_cons_succ]
            refine takeD (i := 7) (d := some 23) (v := ?_) _ rfl rfl (by kernel_rfl) (by kernel_rfl) (by kernel_rfl) (fun _ _ _ h => h) (by rfl) ?_ (by assumption) ?_
            rotate_left
            · (intro w hSw; (try dsimp only at hSw); go_simp) <;> with_reducible rfl
            try simp only [Act.put, List.setIfInBounds_toArray, List.set_cons_zero, List.set_cons_succ]
            refine takeD (i := 8) (d := some 24) (v := ?_) _ rfl rfl (by kernel_rfl) (by kernel_rfl) (by kernel_rfl) (fun _ _ _ h => h) (by rfl) ?_ (by assumption) ?_
            rotate_left
            · (intro w hSw; (try dsimp only at hSw); go_simp) <;> with_reducible rfl
            try simp only [Act.put, List.setIfInBounds_toArray, List.set_cons_zero, List.set_cons_succ]
            refine wpAnyH_done (by kernel_rfl) ?_ _
            have HB2 := Lib.hid (HB.out.trans (hHeld.1.mono HB.out.size))
            clear hHeld
            go_wp2_with fail
            go_ret
            exact ⟨by rw [HF.out]; rfl, HB2.out⟩
      · have hjI : ¬ (j : Int) < (n : Int) := by omega
        have HF : Hid (eq = true) := by
          unfold Hid
          rw [← HE.out, decide_eq_true_iff]
          have := HTK.out
          rwa [List.take_of_length_le (by rw [HN.out]; omega), List.take_of_length_le (by rw [HM.out]; omega)] at this
        clear hj hlt
        go_wp2_with fail
        go_ret
        exact ⟨by rw [HF.out]; rfl, HB.out⟩
  · have hne : ((n : Int) == (m : Int)) = false := by rw [beq_eq_false_iff_ne]; omega
    have hne2 : ((n : Int) != (m : Int)) = true := by rw [bne_iff_ne]; omega
    have hf : decide (L = M) = false := by
      rw [decide_eq_false_iff_not]
      intro h
      have h1 := HN.out; have h2 := HM.out
      rw [h] at h1; omega
    rw [hf]
    clear hf
    go_enter Try.func49, Try.ntmps49
    go_wp2_with fail
    go_ret
    exact ⟨rfl, Below.refl _ _⟩
theorem row_new (w : World) : (w.alloc (.cells #[] 76)).ownsRow 0 76 2 (.slice (some ⟨w.heap.size, 0, none⟩) 0 0) 0 (C []) :=
  ⟨rfl, .inr ⟨w.heap.size, 0, #[], rfl, Nat.zero_le _, heap_alloc_new w _, Nat.le_refl _, by unfold maxLen; omega, rfl, rfl⟩⟩
theorem clone_any (v : Value) (rb : Nat) (L : List (Int × Int)) (w : World) (hr : RowV w v rb L) (hL : L.length ≤ 1000) :
    Calls Try.prog 45 #[v] w fun e w' => ∃ A n c rb', e = .returned (.slice A n c) ∧ RowV w' (.slice A n c) rb' L ∧ (Value.slice A n c = .slice none 0 0 ∨ (w.heap.size ≤ rb' ∧ rb' < w'.heap.size)) ∧ Below w.heap.size w w' := by
  rcases hr.form with ⟨rfl, h0⟩ | ⟨cap, cur, rfl, hg, h1, h2, h3, h4⟩
  · have he : ∀ w : World, (binOp .eql 79 (.slice none 0 0) (.slice none 0 0)).run Try.prog w = .ok (.bool true) w := fun _ => rfl
    go_enter Try.func45, Try.ntmps45
    go_wp2_with fail
    go_ret
    exact ⟨none, 0, 0, rb, rfl, hr, .inl rfl, Below.refl _ _⟩
  · obtain ⟨i0, hi, hz0, hz1, hz2⟩ := info_of timer_info
    obtain ⟨n, hn⟩ : ∃ n, L.length = n := ⟨_, rfl⟩
    have hb : rb < w.heap.size := by
      rcases hr.lt with h | h
      · cases h
      · exact h
    have RD : Hid (Reads w w.heap.size 2 (some ⟨rb, 0, none⟩) n (C L)) := by
      refine ⟨by rw [C_len, hn], fun _ => ⟨_, rfl, hb, fun j u hu => ?_⟩⟩
      rw [Addr.add_lit, Nat.zero_add, (row_cell hg j).1, ← Array.getElem?_toList]
      have h5 : j < n * 2 := by
        have := (List.getElem?_eq_some_iff.1 hu).1
        rw [C_len, hn] at this; exact this
      rw [← h4, hn, List.getElem?_take_of_lt h5] at hu
      exact hu
    have HN := Lib.hid hn
    have HL : Hid (n ≤ 1000) := by unfold Hid; omega
    rw [hn]
    clear hr hg h1 h2 h3 h4 hL hn hb
    have he : ∀ w : World, (binOp .eql 79 (.slice (some ⟨rb, 0, none⟩) n cap) (.slice none 0 0)).run Try.prog w = .ok (.bool false) w := fun _ => rfl
    go_enter Try.func45, Try.ntmps45
    go_wp2_with (at_builtin; refine wpList_append_any _ rfl (.tmp 5) (.tmp 6) _ rfl 0 76 i0 _ 2 16 Try.underlying79 hi hz0 hz1 hz2 rfl (by omega) (.slice (some ⟨w.heap.size, 0, none⟩) 0 0) 0 (C []) rfl (row_new w) w.heap.size (some ⟨rb, 0, none⟩) n cap (C L) rfl (RD.out.alloc (Nat.le_refl _) _) (C_one _) ?c2 ?c3 ?c4 ?_)
    case c2 => have := HL.out; unfold maxLen; omega
    case c3 => have := HL.out; omega
    case c4 => exact Nat.zero_le _
    intro v2 w2 ho hgr hbl
    have ho' : w2.ownsRow 0 76 2 v2 L.length (C L) := by rw [HN.out]; simpa [C] using ho
    have hs2 : w.heap.size < w2.heap.size := by have := hgr.size; simp at this; omega
    have hbel : Hid (Below w.heap.size w w2) := ((Below.refl _ _).alloc (Nat.le_refl _) _).grown hgr (by simp) (fun q hq => by have h' : some w.heap.size = some q := hq; injection h' with h'; omega)
    obtain ⟨A2, c2, hv2⟩ := slice_form ho'
    rw [HN.out] at hv2
    subst hv2
    have hres : Hid (∃ rb', RowV w2 (.slice A2 n c2) rb' L ∧ (Value.slice A2 n c2 = .slice none 0 0 ∨ (w.heap.size ≤ rb' ∧ rb' < w2.heap.size))) := by
      unfold Hid
      rcases hbl with h | h
      · refine ⟨w.heap.size, ⟨ho', fun b e => by rw [h] at e; injection e with e; exact e.symm⟩, .inr ⟨Nat.le_refl _, hs2⟩⟩
      · have R : RowV w2 (.slice A2 n c2) (w.heap.size + 1) L := ⟨ho', fun b e => by
          rw [h] at e
          simpa using e.symm⟩
        refine ⟨w.heap.size + 1, R, ?_⟩
        rcases R.lt with h5 | h5
        · exact .inl h5
        · exact .inr ⟨by omega, h5⟩
    clear ho ho' hgr hbl hs2
    go_wp2_with fail
    go_ret
    obtain ⟨rb', r1, r2⟩ := hres.out
    exact ⟨A2, n, c2, rb', rfl, r1, r2, hbel.out⟩
end Go.Proofs.Ytbnnpfhgpbaedaa.W
