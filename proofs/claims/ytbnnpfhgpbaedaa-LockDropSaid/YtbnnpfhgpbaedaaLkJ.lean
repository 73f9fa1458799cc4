/-
  Two lists of numbers: are they the same? Each statement bears its own conditions.
-/
import Derived.Test.YtbnnpfhgpbaedaaIvA
import Derived.Test.YtbnnpfhgpbaedaaSpM
namespace Go.Proofs.Ytbnnpfhgpbaedaa.K
open Go.RowKit Go.Proofs.Ytbnnpfhgpbaedaa.I
set_option linter.unusedVariables false
set_option linter.unusedSimpArgs false
theorem getD_in {L : List Int} {j : Nat} (h : j < L.length) : L.getD j 0 ∈ L := by
  rw [List.getD_eq_getElem?_getD, List.getElem?_eq_getElem h]; exact List.getElem_mem h
theorem notin_next {L : List Int} {x a : Int} {j : Nat} (h : j < L.length) (h1 : x ∉ L.take j) (ha : L.getD j 0 = a) (hx : ¬ a = x) : x ∉ L.take (j + 1) := by
  rw [take_getD h, ha, List.mem_append]
  rintro (h | h)
  · exact h1 h
  · exact hx (List.mem_singleton.1 h).symm
set_option maxRecDepth 100000 in
set_option maxHeartbeats 1000000 in
theorem ints_any (v v' : Value) (rb rb' : Nat) (L M : List Int) (w : World) (hr : RowV w v rb L) (hr' : RowV w v' rb' M) (hL : L.length ≤ 1000) (hM : M.length ≤ 1000) :
    Calls Try.prog 17 #[v, v'] w fun e w' => e = .returned (.bool (decide (L = M))) ∧ Below w.heap.size w w' := by
  obtain ⟨A, c, rfl, hc⟩ := hr.slice
  obtain ⟨A', c', rfl, hc'⟩ := hr'.slice
  obtain ⟨n, hn⟩ : ∃ n, L.length = n := ⟨_, rfl⟩
  obtain ⟨m, hm⟩ : ∃ m, M.length = m := ⟨_, rfl⟩
  have HR := Lib.hid hr
  have HR' := Lib.hid hr'
  have HN := Lib.hid hn
  have HM := Lib.hid hm
  have HL : Hid (n ≤ 1000) := by unfold Hid; omega
  rw [hn] at HR hc ⊢
  rw [hm] at HR' hc' ⊢
  clear hr hr' hL hM hn hm
  by_cases hnm : n = m
  · subst hnm
    obtain ⟨eq, heq⟩ : ∃ eq, decide (L = M) = eq := ⟨_, rfl⟩
    have HE := Lib.hid heq
    rw [heq]
    clear heq
    go_enter Try.func17, Try.ntmps17
    go_wp2_with fail
    go_loopw [5] (fun i wr => ERel L M n w i wr) (fun i _ => 1001 - (intOf i).toNat)
    case atStart => exact ⟨⟨0, Nat.zero_le _, rfl, rfl, Below.refl _ _⟩⟩
    case round =>
      obtain ⟨⟨j, hj, rfl, htk, hb⟩⟩ := hrel
      have HB := Lib.hid hb
      have HTK := Lib.hid htk
      clear hb htk
      by_cases hlt : j < n
      · obtain ⟨⟨c1, hv⟩, d0, hrl⟩ := RowV.cells (w := w) (rb := rb) (L := L) HR.out j (by rw [HN.out]; exact hlt)
        obtain ⟨⟨c2, hv'⟩, e0, hrl'⟩ := RowV.cells (w := w) (rb := rb') (L := M) HR'.out j (by rw [HM.out]; exact hlt)
        injection hv with hv _ hcc
        injection hv' with hv' _ hcc'
        subst hv hcc hv' hcc'
        have d0 := cell_later HB.out d0
        have e0 := cell_later HB.out e0
        have hjI : (j : Int) < (n : Int) := by omega
        have hj2 : (j : Int) < 1000 := by have := HL.out; omega
        have hj1 : Hid (j < 1000) := by unfold Hid; omega
        obtain ⟨a, ha⟩ : ∃ a, Hid (L.getD j 0 = a) := ⟨_, rfl⟩
        obtain ⟨a', ha'⟩ : ∃ a, Hid (M.getD j 0 = a) := ⟨_, rfl⟩
        rw [ha.out] at d0
        rw [ha'.out] at e0
        have HLT : Hid (j < n) := hlt
        by_cases he : a = a'
        · have HT2 : Hid (L.take (j + 1) = M.take (j + 1)) := by
            unfold Hid
            rw [take_getD (by rw [HN.out]; exact hlt), take_getD (by rw [HM.out]; exact hlt), HTK.out, ha.out, ha'.out, he]
          subst he
          clear hj hlt
          go_wp2_with fail
          refine wp_region_held_drew (S := (fun w' => Below wr.heap.size wr w' ∧ w'.cell? ⟨rb, j, none⟩ = some (.int .i64 a) ∧ w'.cell? ⟨rb', j, none⟩ = some (.int .i64 a))) (by kernel_rfl) ?_ (fun hHeld => ?_)
          · exact ⟨(Below.refl _ _).drew, d0, e0⟩
          refine takeD (i := 0) (d := some 17) (v := ?_) _ rfl rfl (by kernel_rfl) (by kernel_rfl) (by kernel_rfl) (fun _ _ _ h => h) (by rfl) ?_ (by assumption) ?_
          rotate_left
          · (intro w hSw; (try dsimp only at hSw); go_simp) <;> with_reducible rfl
          try simp only [Act.put, List.setIfInBounds_toArray, List.set_cons_zero, List.set_cons_succ]
          refine takeD (i := 1) (d := some 18) (v := ?_) _ rfl rfl (by kernel_rfl) (by kernel_rfl) (by kernel_rfl) (fun _ _ _ h => h) (by rfl) ?_ (by assumption) ?_
          rotate_left
          · (intro w hSw; (try dsimp only at hSw); go_simp) <;> with_reducible rfl
          try simp only [Act.put, List.setIfInBounds_toArray, List.set_cons_zero, List.set_cons_succ]
          refine takeD (i := 2) (d := some 19) (v := ?_) _ rfl rfl (by kernel_rfl) (by kernel_rfl) (by kernel_rfl) (fun _ _ _ h => h) (by rfl) ?_ (by assumption) ?_
          rotate_left
          · (intro w hSw; (try dsimp only at hSw); go_simp) <;> with_reducible rfl
          try simp only [Act.put, List.setIfInBounds_toArray, List.set_cons_zero, List.set_cons_succ]
          refine takeD (i := 3) (d := some 20) (v := ?_) _ rfl rfl (by kernel_rfl) (by kernel_rfl) (by kernel_rfl) (fun _ _ _ h => h) (by rfl) ?_ (by assumption) ?_
          rotate_left
          · (intro w hSw; (try dsimp only at hSw); go_simp) <;> with_reducible rfl
          try simp only [Act.put, List.setIfInBounds_toArray, List.set_cons_zero, List.set_cons_succ]
          refine takeD (i := 4) (d := some 21) (v := ?_) _ rfl rfl (by kernel_rfl) (by kernel_rfl) (by kernel_rfl) (fun _ _ _ h => h) (by rfl) ?_ (by assumption) ?_
          rotate_left
          · (intro w hSw; (try dsimp only at hSw); go_simp) <;> with_reducible rfl
          try simp only [Act.put, List.setIfInBounds_toArray, List.set_cons_zero, List.set_cons_succ]
          refine takeD (i := 5) (d := some 22) (v := ?_) _ rfl rfl (by kernel_rfl) (by kernel_rfl) (by kernel_rfl) (fun _ _ _ h => h) (by rfl) ?_ (by assumption) ?_
          rotate_left
          · (intro w hSw; (try dsimp only at hSw); go_simp) <;> with_reducible rfl
          try simp only [Act.put, List.setIfInBounds_toArray, List.set_cons_zero, List.set_cons_succ]
          refine takeD (i := 6) (d := some 23) (v := ?_) _ rfl rfl (by kernel_rfl) (by kernel_rfl) (by kernel_rfl) (fun _ _ _ h => h) (by rfl) ?_ (by assumption) ?_
          rotate_left
          · (intro w hSw; (try dsimp only at hSw); go_simp) <;> with_reducible rfl
          try simp only [Act.put, List.setIfInBounds_toArray, List.set_cons_zero, List.set_cons_succ]
          refine takeD (i := 7) (d := some 24) (v := ?_) _ rfl rfl (by kernel_rfl) (by kernel_rfl) (by kernel_rfl) (fun _ _ _ h => h) (by rfl) ?_ (by assumption) ?_
          rotate_left
          · (intro w hSw; (try dsimp only at hSw); go_simp) <;> with_reducible rfl
          try simp only [Act.put, List.setIfInBounds_toArray, List.set_cons_zero, List.set_cons_succ]
          refine takeD (i := 8) (d := some 25) (v := ?_) _ rfl rfl (by kernel_rfl) (by kernel_rfl) (by kernel_rfl) (fun _ _ _ h => h) (by rfl) ?_ (by assumption) ?_
          rotate_left
          · (intro w hSw; (try dsimp only at hSw); go_simp) <;> with_reducible rfl
          try simp only [Act.put, List.setIfInBounds_toArray, List.set_cons_zero, List.set_cons_succ]
          refine wpAnyH_done (by kernel_rfl) ?_ _
          have HB2 := Lib.hid (HB.out.trans (hHeld.1.mono HB.out.size))
          clear hHeld
          go_wp2_with fail
          go_roundw
          case rel => first | exact ⟨⟨j + 1, HLT.out, by go_num, HT2.out, HB2.out⟩⟩ | ((repeat apply Exists.intro); exact ⟨⟨⟨j + 1, HLT.out, by go_num, HT2.out, HB2.out⟩⟩, rfl⟩)
          case measure => have := hj1.out; simp [intOf]; omega
        · have HF : Hid (eq = false) := by
            unfold Hid
            rw [← HE.out, decide_eq_false_iff_not]
            intro h
            apply he
            rw [← ha.out, ← ha'.out, h]
          have hne1 : (a == a') = false := by rw [beq_eq_false_iff_ne]; exact he
          have hne2 : (a != a') = true := by rw [bne_iff_ne]; exact he
          clear hj hlt
          go_wp2_with fail
          refine wp_region_held_drew (S := (fun w' => Below wr.heap.size wr w' ∧ w'.cell? ⟨rb, j, none⟩ = some (.int .i64 a) ∧ w'.cell? ⟨rb', j, none⟩ = some (.int .i64 a'))) (by kernel_rfl) ?_ (fun hHeld => ?_)
          · exact ⟨(Below.refl _ _).drew, d0, e0⟩
          refine takeD (i := 0) (d := some 17) (v := ?_) _ rfl rfl (by kernel_rfl) (by kernel_rfl) (by kernel_rfl) (fun _ _ _ h => h) (by rfl) ?_ (by assumption) ?_
          rotate_left
          · (intro w hSw; (try dsimp only at hSw); go_simp) <;> with_reducible rfl
          try simp only [Act.put, List.setIfInBounds_toArray, List.set_cons_zero, List.set_cons_succ]
          refine takeD (i := 1) (d := some 18) (v := ?_) _ rfl rfl (by kernel_rfl) (by kernel_rfl) (by kernel_rfl) (fun _ _ _ h => h) (by rfl) ?_ (by assumption) ?_
          rotate_left
          · (intro w hSw; (try dsimp only at hSw); go_simp) <;> with_reducible rfl
          try simp only [Act.put, List.setIfInBounds_toArray, List.set_cons_zero, List.set_cons_succ]
          refine takeD (i := 2) (d := some 19) (v := ?_) _ rfl rfl (by kernel_rfl) (by kernel_rfl) (by kernel_rfl) (fun _ _ _ h => h) (by rfl) ?_ (by assumption) ?_
          rotate_left
          · (intro w hSw; (try dsimp only at hSw); go_simp) <;> with_reducible rfl
          try simp only [Act.put, List.setIfInBounds_toArray, List.set_cons_zero, List.set_cons_succ]
          refine takeD (i := 3) (d := some 20) (v := ?_) _ rfl rfl (by kernel_rfl) (by kernel_rfl) (by kernel_rfl) (fun _ _ _ h => h) (by rfl) ?_ (by assumption) ?_
          rotate_left
          · (intro w hSw; (try dsimp only at hSw); go_simp) <;> with_reducible rfl
          try simp only [Act.put, List.setIfInBounds_toArray, List.set_cons_zero, List.set_cons_succ]
          refine takeD (i := 4) (d := some 21) (v := ?_) _ rfl rfl (by kernel_rfl) (by kernel_rfl) (by kernel_rfl) (fun _ _ _ h => h) (by rfl) ?_ (by assumption) ?_
          rotate_left
          · (intro w hSw; (try dsimp only at hSw); go_simp) <;> with_reducible rfl
          try simp only [Act.put, List.setIfInBounds_toArray, List.set_cons_zero, List.set_cons_succ]
          refine takeD (i := 5) (d := some 22) (v := ?_) _ rfl rfl (by kernel_rfl) (by kernel_rfl) (by kernel_rfl) (fun _ _ _ h => h) (by rfl) ?_ (by assumption) ?_
          rotate_left
          · (intro w hSw; (try dsimp only at hSw); go_simp) <;> with_reducible rfl
          try simp only [Act.put, List.setIfInBounds_toArray, List.set_cons_zero, List.set_cons_succ]
          refine takeD (i := 6) (d := some 23) (v := ?_) _ rfl rfl (by kernel_rfl) (by kernel_rfl) (by kernel_rfl) (fun _ _ _ h => h) (by rfl) ?_ (by assumption) ?_
          rotate_left
          · (intro w hSw; (try dsimp only at hSw); go_simp) <;> with_reducible rfl
          try simp only [Act.put, List.setIfInBounds_toArray, List.set_cons_zero, List.set_cons_succ]
          refine takeD (i := 7) (d := some 24) (v := ?_) _ rfl rfl (by kernel_rfl) (by kernel_rfl) (by kernel_rfl) (fun _ _ _ h => h) (by rfl) ?_ (by assumption) ?_
          rotate_left
          · (intro w hSw; (try dsimp only at hSw); go_simp) <;> with_reducible rfl
          try simp only [Act.put, List.setIfInBounds_toArray, List.set_cons_zero, List.set_cons_succ]
          refine takeD (i := 8) (d := some 25) (v := ?_) _ rfl rfl (by kernel_rfl) (by kernel_rfl) (by kernel_rfl) (fun _ _ _ h => h) (by rfl) ?_ (by assumption) ?_
          rotate_left
          · (intro w hSw; (try dsimp only at hSw); go_simp) <;> with_reducible rfl
          try simp only [Act.put, List.setIfInBounds_toArray, List.set_cons_zero, List.set_cons_succ]
          refine wpAnyH_done (by kernel_rfl) ?_ _
          have HB2 := Lib.hid (HB.out.trans (hHeld.1.mono HB.out.size))
          clear hHeld
          go_wp2_with fail
          go_ret
          exact ⟨by rw [HF.out]; rfl, HB2.out⟩
      · have hjI : ¬ (j : Int) < (n : Int) := by omega
        have HF : Hid (eq = true) := by
          unfold Hid
          rw [← HE.out, decide_eq_true_iff]
          have := HTK.out
          rwa [List.take_of_length_le (by rw [HN.out]; omega), List.take_of_length_le (by rw [HM.out]; omega)] at this
        clear hj hlt
        go_wp2_with fail
        go_ret
        exact ⟨by rw [HF.out]; rfl, HB.out⟩
  · have hne : ((n : Int) == (m : Int)) = false := by rw [beq_eq_false_iff_ne]; omega
    have hne2 : ((n : Int) != (m : Int)) = true := by rw [bne_iff_ne]; omega
    have hf : decide (L = M) = false := by
      rw [decide_eq_false_iff_not]
      intro h
      have h1 := HN.out; have h2 := HM.out
      rw [h] at h1; omega
    rw [hf]
    clear hf
    go_enter Try.func17, Try.ntmps17
    go_wp2_with fail
    go_ret
    exact ⟨rfl, Below.refl _ _⟩
structure HRelhas (L : List Int) (x : Int) (n : Nat) (w : World) (iv : Value) (wr : World) : Prop where
  ex : ∃ j : Nat, j ≤ n ∧ iv = .int .i64 (j : Int) ∧ x ∉ L.take j ∧ wr = w
end Go.Proofs.Ytbnnpfhgpbaedaa.K
