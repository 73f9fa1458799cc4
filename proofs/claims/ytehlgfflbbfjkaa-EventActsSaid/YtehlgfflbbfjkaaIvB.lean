/-
  Lists of numbers: which are the same, and what is in one. Each statement bears its own conditions.
-/
import Derived.Test.YtehlgfflbbfjkaaEvM
namespace Go.Proofs.Ytehlgfflbbfjkaa.E
open Go.RowKit Go.Proofs.Ytehlgfflbbfjkaa.I
set_option linter.unusedVariables false
set_option linter.unusedSimpArgs false
theorem getD_in {L : List Int} {j : Nat} (h : j < L.length) : L.getD j 0 ∈ L := by
  rw [List.getD_eq_getElem?_getD, List.getElem?_eq_getElem h]; exact List.getElem_mem h
theorem notin_next {L : List Int} {x a : Int} {j : Nat} (h : j < L.length) (h1 : x ∉ L.take j) (ha : L.getD j 0 = a) (hx : ¬ a = x) : x ∉ L.take (j + 1) := by
  rw [take_getD h, ha, List.mem_append]
  rintro (h | h)
  · exact h1 h
  · exact hx (List.mem_singleton.1 h).symm
set_option maxRecDepth 100000 in
set_option maxHeartbeats 1000000 in
theorem rsame_any (v v' : Value) (rb rb' : Nat) (L M : List Int) (w : World) (hr : RowV w v rb L) (hr' : RowV w v' rb' M) (hL : L.length ≤ 1000) (hM : M.length ≤ 1000) :
    Calls Try.prog 13 #[v, v'] w fun e w' => e = .returned (.bool (decide (L = M))) ∧ Below w.heap.size w w' := by
  obtain ⟨A, c, rfl, hc⟩ := hr.slice
  obtain ⟨A', c', rfl, hc'⟩ := hr'.slice
  obtain ⟨n, hn⟩ : ∃ n, L.length = n := ⟨_, rfl⟩
  obtain ⟨m, hm⟩ : ∃ m, M.length = m := ⟨_, rfl⟩
  have HR := Lib.hid hr
  have HR' := Lib.hid hr'
  have HN := Lib.hid hn
  have HM := Lib.hid hm
  have HL : Hid (n ≤ 1000) := by unfold Hid; omega
  rw [hn] at HR hc ⊢
  rw [hm] at HR' hc' ⊢
  clear hr hr' hL hM hn hm
  by_cases hnm : n = m
  · subst hnm
    obtain ⟨eq, heq⟩ : ∃ eq, decide (L = M) = eq := ⟨_, rfl⟩
    have HE := Lib.hid heq
    rw [heq]
    clear heq
    go_enter Try.func13, Try.ntmps13
    go_wp2_with fail
    go_loopw [5] (fun i wr => ERel L M n w i wr) (fun i _ => 1001 - (intOf i).toNat)
    case atStart => exact ⟨⟨0, Nat.zero_le _, rfl, rfl, Below.refl _ _⟩⟩
    case round =>
      obtain ⟨⟨j, hj, rfl, htk, hb⟩⟩ := hrel
      have HB := Lib.hid hb
      have HTK := Lib.hid htk
      clear hb htk
      by_cases hlt : j < n
      · obtain ⟨⟨c1, hv⟩, d0, hrl⟩ := RowV.cells (w := w) (rb := rb) (L := L) HR.out j (by rw [HN.out]; exact hlt)
        obtain ⟨⟨c2, hv'⟩, e0, hrl'⟩ := RowV.cells (w := w) (rb := rb') (L := M) HR'.out j (by rw [HM.out]; exact hlt)
        injection hv with hv _ hcc
        injection hv' with hv' _ hcc'
        subst hv hcc hv' hcc'
        have d0 := cell_later HB.out d0
        have e0 := cell_later HB.out e0
        have hjI : (j : Int) < (n : Int) := by omega
        have hj2 : (j : Int) < 1000 := by have := HL.out; omega
        have hj1 : Hid (j < 1000) := by unfold Hid; omega
        obtain ⟨a, ha⟩ : ∃ a, Hid (L.getD j 0 = a) := ⟨_, rfl⟩
        obtain ⟨a', ha'⟩ : ∃ a, Hid (M.getD j 0 = a) := ⟨_, rfl⟩
        rw [ha.out] at d0
        rw [ha'.out] at e0
        have HLT : Hid (j < n) := hlt
        by_cases he : a = a'
        · have HT2 : Hid (L.take (j + 1) = M.take (j + 1)) := by
            unfold Hid
            rw [take_getD (by rw [HN.out]; exact hlt), take_getD (by rw [HM.out]; exact hlt), HTK.out, ha.out, ha'.out, he]
          subst he
          clear hj hlt
          go_wp2_with fail
          refine wp_region_held_drew (S := (fun w' => Below wr.heap.size wr w' ∧ w'.cell? ⟨rb, j, none⟩ = some (.int .i64 a) ∧ w'.cell? ⟨rb', j, none⟩ = some (.int .i64 a))) (by kernel_rfl) ?_ (fun hHeld => ?_)
          · exact ⟨(Below.refl _ _).drew, d0, e0⟩
          refine takeD (i := 0) (d := some 17) (v := ?_) _ rfl rfl (by kernel_rfl) (by kernel_rfl) (by kernel_rfl) (fun _ _ _ h => h) (by rfl) ?_ (by assumption) ?_
          rotate_left
          · (intro w hSw; (try dsimp only at hSw); go_simp) <;> with_reducible rfl
          try simp only [Act.put, List.setIfInBounds_toArray, List.set_cons_zero, List.set_cons_succ]
          refine takeD (i := 1) (d := some 18) (v := ?_) _ rfl rfl (by kernel_rfl) (by kernel_rfl) (by kernel_rfl) (fun _ _ _ h => h) (by rfl) ?_ (by assumption) ?_
          rotate_left
          · (intro w hSw; (try dsimp only at hSw); go_simp) <;> with_reducible rfl
          try simp only [Act.put, List.setIfInBounds_toArray, List.set_cons_zero, List.set_cons_succ]
          refine takeD (i := 2) (d := some 19) (v := ?_) _ rfl rfl (by kernel_rfl) (by kernel_rfl) (by kernel_rfl) (fun _ _ _ h => h) (by rfl) ?_ (by assumption) ?_
          rotate_left
          · (intro w hSw; (try dsimp only at hSw); go_simp) <;> with_reducible rfl
          try simp only [Act.put, List.setIfInBounds_toArray, List.set_cons_zero, List.set_cons_succ]
          refine takeD (i := 3) (d := some 20) (v := ?_) _ rfl rfl (by kernel_rfl) (by kernel_rfl) (by kernel_rfl) (fun _ _ _ h => h) (by rfl) ?_ (by assumption) ?_
          rotate_left
          · (intro w hSw; (try dsimp only at hSw); go_simp) <;> with_reducible rfl
          try simp only [Act.put, List.setIfInBounds_toArray, List.set_cons_zero, List.set_cons_succ]
          refine takeD (i := 4) (d := some 21) (v := ?_) _ rfl rfl (by kernel_rfl) (by kernel_rfl) (by kernel_rfl) (fun _ _ _ h => h) (by rfl) ?_ (by assumption) ?_
          rotate_left
          · (intro w hSw; (try dsimp only at hSw); go_simp) <;> with_reducible rfl
          try simp only [Act.put, List.setIfInBounds_toArray, List.set_cons_zero, List.set_cons_succ]
          refine takeD (i := 5) (d := some 22) (v := ?_) _ rfl rfl (by kernel_rfl) (by kernel_rfl) (by kernel_rfl) (fun _ _ _ h => h) (by rfl) ?_ (by assumption) ?_
          rotate_left
          · (intro w hSw; (try dsimp only at hSw); go_simp) <;> with_reducible rfl
          try simp only [Act.put, List.setIfInBounds_toArray, List.set_cons_zero, List.set_cons_succ]
          refine takeD (i := 6) (d := some 23) (v := ?_) _ rfl rfl (by kernel_rfl) (by kernel_rfl) (by kernel_rfl) (fun _ _ _ h => h) (by rfl) ?_ (by assumption) ?_
          rotate_left
          · (intro w hSw; (try dsimp only at hSw); go_simp) <;> with_reducible rfl
          try simp only [Act.put, List.setIfInBounds_toArray, List.set_cons_zero, List.set_cons_succ]
          refine takeD (i := 7) (d := some 24) (v := ?_) _ rfl rfl (by kernel_rfl) (by kernel_rfl) (by kernel_rfl) (fun _ _ _ h => h) (by rfl) ?_ (by assumption) ?_
          rotate_left
          · (intro w hSw; (try dsimp only at hSw); go_simp) <;> with_reducible rfl
          try simp only [Act.put, List.setIfInBounds_toArray, List.set_cons_zero, List.set_cons_succ]
          refine takeD (i := 8) (d := some 25) (v := ?_) _ rfl rfl (by kernel_rfl) (by kernel_rfl) (by kernel_rfl) (fun _ _ _ h => h) (by rfl) ?_ (by assumption) ?_
          rotate_left
          · (intro w hSw; (try dsimp only at hSw); go_simp) <;> with_reducible rfl
          try simp only [Act.put, List.setIfInBounds_toArray, List.set_cons_zero, List.set_cons_succ]
          refine wpAnyH_done (by kernel_rfl) ?_ _
          have HB2 := Lib.hid (HB.out.trans (hHeld.1.mono HB.out.size))
          clear hHeld
          go_wp2_with fail
          go_roundw
          case rel => first | exact ⟨⟨j + 1, HLT.out, by go_num, HT2.out, HB2.out⟩⟩ | ((repeat apply Exists.intro); exact ⟨⟨⟨j + 1, HLT.out, by go_num, HT2.out, HB2.out⟩⟩, rfl⟩)
          case measure => have := hj1.out; simp [intOf]; omega
        · have HF : Hid (eq = false) := by
            unfold Hid
            rw [← HE.out, decide_eq_false_iff_not]
            intro h
            apply he
            rw [← ha.out, ← ha'.out, h]
          have hne1 : (a == a') = false := by rw [beq_eq_false_iff_ne]; exact he
          have hne2 : (a != a') = true := by rw [bne_iff_ne]; exact he
          clear hj hlt
          go_wp2_with fail
          refine wp_region_held_drew (S := (fun w' => Below wr.heap.size wr w' ∧ w'.cell? ⟨rb, j, none⟩ = some (.int .i64 a) ∧ w'.cell? ⟨rb', j, none⟩ = some (.int .i64 a'))) (by kernel_rfl) ?_ (fun hHeld => ?_)
          · exact ⟨(Below.refl _ _).drew, d0, e0⟩
          refine takeD (i := 0) (d := some 17) (v := ?_) _ rfl rfl (by kernel_rfl) (by kernel_rfl) (by kernel_rfl) (fun _ _ _ h => h) (by rfl) ?_ (by assumption) ?_
          rotate_left
          · (intro w hSw; (try dsimp only at hSw); go_simp) <;> with_reducible rfl
          try simp only [Act.put, List.setIfInBounds_toArray, List.set_cons_zero, List.set_cons_succ]
          refine takeD (i := 1) (d := some 18) (v := ?_) _ rfl rfl (by kernel_rfl) (by kernel_rfl) (by kernel_rfl) (fun _ _ _ h => h) (by rfl) ?_ (by assumption) ?_
          rotate_left
          · (intro w hSw; (try dsimp only at hSw); go_simp) <;> with_reducible rfl
          try simp only [Act.put, List.setIfInBounds_toArray, List.set_cons_zero, List.set_cons_succ]
          refine takeD (i := 2) (d := some 19) (v := ?_) _ rfl rfl (by kernel_rfl) (by kernel_rfl) (by kernel_rfl) (fun _ _ _ h => h) (by rfl) ?_ (by assumption) ?_
          rotate_left
          · (intro w hSw; (try dsimp only at hSw); go_simp) <;> with_reducible rfl
          try simp only [Act.put, List.setIfInBounds_toArray, List.set_cons_zero, List.set_cons_succ]
          refine takeD (i := 3) (d := some 20) (v := ?_) _ rfl rfl (by kernel_rfl) (by kernel_rfl) (by kernel_rfl) (fun _ _ _ h => h) (by rfl) ?_ (by assumption) ?_
          rotate_left
          · (intro w hSw; (try dsimp only at hSw); go_simp) <;> with_reducible rfl
          try simp only [Act.put, List.setIfInBounds_toArray, List.set_cons_zero, List.set_cons_succ]
          refine takeD (i := 4) (d := some 21) (v := ?_) _ rfl rfl (by kernel_rfl) (by kernel_rfl) (by kernel_rfl) (fun _ _ _ h => h) (by rfl) ?_ (by assumption) ?_
          rotate_left
          · (intro w hSw; (try dsimp only at hSw); go_simp) <;> with_reducible rfl
          try simp only [Act.put, List.setIfInBounds_toArray, List.set_cons_zero, List.set_cons_succ]
          refine takeD (i := 5) (d := some 22) (v := ?_) _ rfl rfl (by kernel_rfl) (by kernel_rfl) (by kernel_rfl) (fun _ _ _ h => h) (by rfl) ?_ (by assumption) ?_
          rotate_left
          · (intro w hSw; (try dsimp only at hSw); go_simp) <;> with_reducible rfl
          try simp only [Act.put, List.setIfInBounds_toArray, List.set_cons_zero, List.set_cons_succ]
          refine takeD (i := 6) (d := some 23) (v := ?_) _ rfl rfl (by kernel_rfl) (by kernel_rfl) (by kernel_rfl) (fun _ _ _ h => h) (by rfl) ?_ (by assumption) ?_
          rotate_left
          · (intro w hSw; (try dsimp only at hSw); go_simp) <;> with_reducible rfl
          try simp only [Act.put, List.setIfInBounds_toArray, List.set_cons_zero, List.set_cons_succ]
          refine takeD (i := 7) (d := some 24) (v := ?_) _ rfl rfl (by kernel_rfl) (by kernel_rfl) (by kernel_rfl) (fun _ _ _ h => h) (by rfl) ?_ (by assumption) ?_
          rotate_left
          · (intro w hSw; (try dsimp only at hSw); go_simp) <;> with_reducible rfl
          try simp only [Act.put, List.setIfInBounds_toArray, List.set_cons_zero, List.set_cons_succ]
          refine takeD (i := 8) (d := some 25) (v := ?_) _ rfl rfl (by kernel_rfl) (by kernel_rfl) (by kernel_rfl) (fun _ _ _ h => h) (by rfl) ?_ (by assumption) ?_
          rotate_left
          · (intro w hSw; (try dsimp only at hSw); go_simp) <;> with_reducible rfl
          try simp only [Act.put, List.setIfInBounds_toArray, List.set_cons_zero, List.set_cons_succ]
          refine wpAnyH_done (by kernel_rfl) ?_ _
          have HB2 := Lib.hid (HB.out.trans (hHeld.1.mono HB.out.size))
          clear hHeld
          go_wp2_with fail
          go_ret
          exact ⟨by rw [HF.out]; rfl, HB2.out⟩
      · have hjI : ¬ (j : Int) < (n : Int) := by omega
        have HF : Hid (eq = true) := by
          unfold Hid
          rw [← HE.out, decide_eq_true_iff]
          have := HTK.out
          rwa [List.take_of_length_le (by rw [HN.out]; omega), List.take_of_length_le (by rw [HM.out]; omega)] at this
        clear hj hlt
        go_wp2_with fail
        go_ret
        exact ⟨by rw [HF.out]; rfl, HB.out⟩
  · have hne : ((n : Int) == (m : Int)) = false := by rw [beq_eq_false_iff_ne]; omega
    have hne2 : ((n : Int) != (m : Int)) = true := by rw [bne_iff_ne]; omega
    have hf : decide (L = M) = false := by
      rw [decide_eq_false_iff_not]
      intro h
      have h1 := HN.out; have h2 := HM.out
      rw [h] at h1; omega
    rw [hf]
    clear hf
    go_enter Try.func13, Try.ntmps13
    go_wp2_with fail
    go_ret
    exact ⟨rfl, Below.refl _ _⟩
structure HRelhas (L : List Int) (x : Int) (n : Nat) (w : World) (iv : Value) (wr : World) : Prop where
  ex : ∃ j : Nat, j ≤ n ∧ iv = .int .i64 (j : Int) ∧ x ∉ L.take j ∧ wr = w
set_option maxRecDepth 100000 in
set_option maxHeartbeats 1000000 in
theorem has_any (v : Value) (rb : Nat) (L : List Int) (x : Int) (w : World) (hr : RowV w v rb L) (hL : L.length ≤ 1000) :
    Calls Try.prog 16 #[v, .int .i64 x] w fun e w' => e = .returned (.bool (decide (x ∈ L))) ∧ w' = w := by
  obtain ⟨A, c, rfl, hc⟩ := hr.slice
  obtain ⟨n, hn⟩ : ∃ n, L.length = n := ⟨_, rfl⟩
  have HR := Lib.hid hr
  have HN := Lib.hid hn
  have HL : Hid (n ≤ 1000) := by unfold Hid; omega
  rw [hn] at HR hc ⊢
  clear hr hL hn
  go_enter Try.func16, Try.ntmps16
  go_wp2_with fail
  go_loopw [5] (fun i wr => HRelhas L x n w i wr) (fun i _ => 1001 - (intOf i).toNat)
  case atStart => exact ⟨⟨0, Nat.zero_le _, rfl, by simp, rfl⟩⟩
  case round =>
    obtain ⟨⟨j, hj, rfl, hno, rfl⟩⟩ := hrel
    have HJ := Lib.hid hj
    have HNO := Lib.hid hno
    clear hj hno
    by_cases hlt : j < n
    · obtain ⟨⟨c1, hv⟩, d0, _⟩ := RowV.cells HR.out j (by rw [HN.out]; exact hlt)
      injection hv with hv hq hcc
      subst hv hcc
      clear hq
      obtain ⟨a, ha⟩ : ∃ a, Hid (L.getD j 0 = a) := ⟨_, rfl⟩
      rw [ha.out] at d0
      have hjI : (j : Int) < (n : Int) := by omega
      have hj2 : (j : Int) < 1000 := by have := HL.out; omega
      have HX : Hid (j < n) := hlt
      clear hlt
      by_cases hxe : a = x
      · have HF : Hid (x ∈ L) := by
          unfold Hid
          rw [← hxe, ← ha.out]
          exact getD_in (by rw [HN.out]; exact HX.out)
        have hxB : (a == x) = true := by rw [beq_iff_eq]; exact hxe
        have hxB' : (x == a) = true := by rw [beq_iff_eq]; exact hxe.symm
        subst hxe
        go_wp2_with fail
        go_ret
        exact ⟨by rw [decide_eq_true HF.out]; rfl, rfl⟩
      · have hxB : (a == x) = false := by rw [beq_eq_false_iff_ne]; exact hxe
        have hxB' : (x == a) = false := by rw [beq_eq_false_iff_ne]; exact fun h => hxe h.symm
        have HNX : Hid (x ∉ L.take (j + 1)) := notin_next (by rw [HN.out]; exact HX.out) HNO.out ha.out hxe
        go_wp2_with fail
        go_roundw
        case rel =>
          have Q : HRelhas L x n wr (.int .i64 ((j : Int) + 1)) wr := ⟨⟨j + 1, HX.out, by go_num, HNX.out, rfl⟩⟩
          first | exact Q | ((repeat apply Exists.intro); exact ⟨Q, rfl⟩)
        case measure => have := HX.out; have := HL.out; simp [intOf]; omega
    · have hjI : ¬ (j : Int) < (n : Int) := by omega
      have HF : Hid (x ∉ L) := by
        have := HNO.out
        rwa [List.take_of_length_le (by rw [HN.out]; omega)] at this
      clear hlt
      go_wp2_with fail
      go_ret
      exact ⟨by rw [decide_eq_false HF.out]; rfl, rfl⟩
/-- Where a number is first; nowhere: -1. -/
def Ix (L : List Int) (x : Int) (e : Ending) : Prop := (∃ k : Nat, x ∈ L ∧ k < L.length ∧ e = .returned (.int .i64 (k : Int))) ∨ (x ∉ L ∧ e = .returned (.int .i64 (-1)))
structure HRelindex (L : List Int) (x : Int) (n : Nat) (w : World) (iv : Value) (wr : World) : Prop where
  ex : ∃ j : Nat, j ≤ n ∧ iv = .int .i64 (j : Int) ∧ x ∉ L.take j ∧ wr = w
set_option maxRecDepth 100000 in
set_option maxHeartbeats 1000000 in
theorem index_any (v : Value) (rb : Nat) (L : List Int) (x : Int) (w : World) (hr : RowV w v rb L) (hL : L.length ≤ 1000) :
    Calls Try.prog 29 #[v, .int .i64 x] w fun e w' => Ix L x e ∧ w' = w := by
  obtain ⟨A, c, rfl, hc⟩ := hr.slice
  obtain ⟨n, hn⟩ : ∃ n, L.length = n := ⟨_, rfl⟩
  have HR := Lib.hid hr
  have HN := Lib.hid hn
  have HL : Hid (n ≤ 1000) := by unfold Hid; omega
  rw [hn] at HR hc ⊢
  clear hr hL hn
  go_enter Try.func29, Try.ntmps29
  go_wp2_with fail
  go_loopw [8] (fun i wr => HRelindex L x n w i wr) (fun i _ => 1001 - (intOf i).toNat)
  case atStart => exact ⟨⟨0, Nat.zero_le _, rfl, by simp, rfl⟩⟩
  case round =>
    obtain ⟨⟨j, hj, rfl, hno, rfl⟩⟩ := hrel
    have HJ := Lib.hid hj
    have HNO := Lib.hid hno
    clear hj hno
    by_cases hlt : j < n
    · obtain ⟨⟨c1, hv⟩, d0, _⟩ := RowV.cells HR.out j (by rw [HN.out]; exact hlt)
      injection hv with hv hq hcc
      subst hv hcc
      clear hq
      obtain ⟨a, ha⟩ : ∃ a, Hid (L.getD j 0 = a) := ⟨_, rfl⟩
      rw [ha.out] at d0
      have hjI : (j : Int) < (n : Int) := by omega
      have hj2 : (j : Int) < 1000 := by have := HL.out; omega
      have HX : Hid (j < n) := hlt
      clear hlt
      by_cases hxe : a = x
      · have HF : Hid (x ∈ L) := by
          unfold Hid
          rw [← hxe, ← ha.out]
          exact getD_in (by rw [HN.out]; exact HX.out)
        have hxB : (a == x) = true := by rw [beq_iff_eq]; exact hxe
        have hxB' : (x == a) = true := by rw [beq_iff_eq]; exact hxe.symm
        subst hxe
        go_wp2_with fail
        go_ret
        exact ⟨.inl ⟨j, HF.out, by rw [HN.out]; exact HX.out, rfl⟩, rfl⟩
      · have hxB : (a == x) = false := by rw [beq_eq_false_iff_ne]; exact hxe
        have hxB' : (x == a) = false := by rw [beq_eq_false_iff_ne]; exact fun h => hxe h.symm
        have HNX : Hid (x ∉ L.take (j + 1)) := notin_next (by rw [HN.out]; exact HX.out) HNO.out ha.out hxe
        go_wp2_with fail
        go_roundw
        case rel =>
          have Q : HRelindex L x n wr (.int .i64 ((j : Int) + 1)) wr := ⟨⟨j + 1, HX.out, by go_num, HNX.out, rfl⟩⟩
          first | exact Q | ((repeat apply Exists.intro); exact ⟨Q, rfl⟩)
        case measure => have := HX.out; have := HL.out; simp [intOf]; omega
    · have hjI : ¬ (j : Int) < (n : Int) := by omega
      have HF : Hid (x ∉ L) := by
        have := HNO.out
        rwa [List.take_of_length_le (by rw [HN.out]; omega)] at this
      clear hlt
      go_wp2_with fail
      go_ret
      exact ⟨.inr ⟨HF.out, rfl⟩, rfl⟩
set_option maxRecDepth 100000 in
theorem contains_any (v : Value) (rb : Nat) (L : List Int) (x : Int) (w : World) (hr : RowV w v rb L) (hL : L.length ≤ 1000) :
    Calls Try.prog 25 #[v, .int .i64 x] w fun e w' => e = .returned (.bool (decide (x ∈ L))) ∧ w' = w := by
  have IX := Lib.hid (index_any v rb L x w hr hL)
  obtain ⟨A, c, rfl, hc⟩ := hr.slice
  clear hr hL hc
  go_enter Try.func25, Try.ntmps25
  go_wp2_with fail
  refine IX.out.mono ?_
  rintro e w1 ⟨h, rfl⟩
  rcases h with ⟨k, hm, hk, rfl⟩ | ⟨hm, rfl⟩
  · have hkI : (0 : Int) ≤ (k : Int) := by omega
    have HM := Lib.hid hm
    clear hm hk
    go_wp2_with fail
    go_ret
    exact ⟨by rw [decide_eq_true HM.out]; rfl, rfl⟩
  · have HM := Lib.hid hm
    clear hm
    go_wp2_with fail
    go_ret
    exact ⟨by rw [decide_eq_false HM.out]; rfl, rfl⟩
end Go.Proofs.Ytehlgfflbbfjkaa.E
