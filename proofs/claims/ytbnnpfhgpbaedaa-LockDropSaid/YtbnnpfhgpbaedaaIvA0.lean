/-
  Lists of numbers in memory; slices.Equal of them. Each statement bears its own conditions.
-/
import Derived.Test.YtbnnpfhgpbaedaaData
import Derived.Laws.Externs
namespace Go.Proofs.Ytbnnpfhgpbaedaa.I
open Go.RowKit
set_option linter.unusedVariables false
set_option linter.unusedSimpArgs false
theorem int_info : (Try.prog.info? 3).map (fun i => (i.zero, i.size, i.bytes)) = some (some (.int .i64 0), 1, 8) := by kernel_rfl
theorem info_of {e : TypeId} {z : Value} {s b : Nat} (h : (Try.prog.info? e).map (fun i => (i.zero, i.size, i.bytes)) = some (some z, s, b)) : ∃ i, Try.prog.info? e = some i ∧ i.zero = some z ∧ i.size = s ∧ i.bytes = b := by
  cases hq : Try.prog.info? e with
  | none => rw [hq] at h; cases h
  | some i =>
    rw [hq] at h
    simp only [Option.map_some, Option.some.injEq, Prod.mk.injEq] at h
    exact ⟨i, rfl, h.1, h.2.1, h.2.2⟩
/-- A list of timers as a value: its row lies in block rb. -/
structure RowV (w : World) (v : Value) (rb : Nat) (L : List Int) : Prop where
  own : w.ownsRow 0 3 1 v L.length (C L)
  at_ : ∀ b, v.ownBlock = some b → b = rb
theorem RowV.form {w : World} {v : Value} {rb : Nat} {L : List Int} (h : RowV w v rb L) : (v = .slice none 0 0 ∧ L = []) ∨ ∃ cap cur, v = .slice (some ⟨rb, 0, none⟩) L.length cap ∧ w.heap[rb]? = some (.cells cur 3 (0, 0)) ∧ L.length ≤ cap ∧ cap ≤ maxLen ∧ cur.size = cap ∧ cur.toList.take (L.length) = C L := by
  rcases h.own.2 with ⟨hv, hn⟩ | ⟨g, cap, cur, hv, _, hg, h1, h2, h3, h4⟩
  · exact .inl ⟨hv, List.eq_nil_of_length_eq_zero hn⟩
  · have := h.at_ g (by rw [hv]; rfl)
    subst this
    exact .inr ⟨cap, cur, hv, hg, h1, h2, by simpa using h3, by simpa using h4⟩
theorem RowV.mk' {w : World} {rb cap : Nat} {cur : Array Value} {L : List Int} (hg : w.heap[rb]? = some (.cells cur 3 (0, 0))) (h1 : L.length ≤ cap) (h2 : cap ≤ maxLen) (h3 : cur.size = cap) (h4 : cur.toList.take (L.length) = C L) : RowV w (.slice (some ⟨rb, 0, none⟩) L.length cap) rb L :=
  ⟨⟨by simpa using C_len L, .inr ⟨rb, cap, cur, rfl, Nat.zero_le _, hg, h1, h2, by simpa using h3, by simpa using h4⟩⟩, fun b hb => by injection hb with hb; exact hb.symm⟩
theorem RowV.cells {w : World} {v : Value} {rb : Nat} {L : List Int} (h : RowV w v rb L) (i : Nat) (hi : i < L.length) : (∃ c, v = .slice (some ⟨rb, 0, none⟩) L.length c) ∧ w.cell? ⟨rb, i, none⟩ = some (.int .i64 (L.getD i 0)) ∧ rb < w.heap.size := by
  rcases h.form with ⟨_, h0⟩ | ⟨cap, cur, hv, hg, h1, h2, h3, h4⟩
  · subst h0; simp at hi
  · have a := C_at L i hi
    rw [← h4, List.getElem?_take_of_lt (by omega), Array.getElem?_toList] at a
    refine ⟨⟨cap, hv⟩, by rw [(row_cell hg _).1]; exact a, ?_⟩
    exact World.block_lt_of_cell? w ⟨rb, i, none⟩ (u := .int .i64 (L.getD i 0)) (by rw [(row_cell hg _).1]; exact a)
theorem RowV.slice {w : World} {v : Value} {rb : Nat} {L : List Int} (h : RowV w v rb L) : ∃ A c, v = .slice A L.length c ∧ L.length ≤ c := by
  rcases h.form with ⟨hv, h0⟩ | ⟨cap, cur, hv, hg, h1, h2, h3, h4⟩
  · subst h0; exact ⟨none, 0, hv, Nat.le_refl _⟩
  · exact ⟨_, cap, hv, h1⟩
theorem RowV.keep {w w' : World} {v : Value} {rb : Nat} {L : List Int} (h : RowV w v rb L) (hb : v = .slice none 0 0 ∨ w'.heap[rb]? = w.heap[rb]?) : RowV w' v rb L := by
  refine ⟨⟨h.own.1, ?_⟩, h.at_⟩
  rcases h.form with ⟨hv, h0⟩ | ⟨cap, cur, hv, hg, h1, h2, h3, h4⟩
  · exact .inl ⟨hv, by rw [h0]; rfl⟩
  · rcases hb with hb | hb
    · rw [hv] at hb; cases hb
    · exact .inr ⟨rb, cap, cur, hv, Nat.zero_le _, hb.trans hg, h1, h2, by simpa using h3, by simpa using h4⟩
theorem RowV.lt {w : World} {v : Value} {rb : Nat} {L : List Int} (h : RowV w v rb L) : v = .slice none 0 0 ∨ rb < w.heap.size := by
  rcases h.form with ⟨hv, h0⟩ | ⟨cap, cur, hv, hg, h1, h2, h3, h4⟩
  · exact .inl hv
  · right
    rcases Nat.lt_or_ge rb w.heap.size with h | h
    · exact h
    · rw [Array.getElem?_eq_none h] at hg; cases hg
theorem RowV.reads {w : World} {A : Option Addr} {n c rb : Nat} {L : List Int} (h : RowV w (.slice A n c) rb L) : Reads w w.heap.size 1 A L.length (C L) := by
  rcases h.form with ⟨_, h0⟩ | ⟨cap, cur, hv, hg, h1, h2, h3, h4⟩
  · subst h0; exact ⟨rfl, fun hn => absurd hn (by simp)⟩
  · injection hv with hA hn hc
    subst hA
    refine ⟨by simp [C_len], fun hn => ⟨_, rfl, ?_, fun j u hu => ?_⟩⟩
    · rcases h.lt with h5 | h5
      · injection h5 with h5; cases h5
      · exact h5
    · rw [Addr.add_lit, Nat.zero_add, (row_cell hg j).1, ← Array.getElem?_toList]
      have h6 : j < L.length := by
        have := (List.getElem?_eq_some_iff.1 hu).1
        rw [C_len] at this; exact this
      rw [← h4, List.getElem?_take_of_lt h6] at hu
      exact hu
theorem take_getD {L : List Int} {j : Nat} (h : j < L.length) : L.take (j + 1) = L.take j ++ [L.getD j 0] := by
  rw [List.take_add_one]; simp [List.getD_eq_getElem?_getD, List.getElem?_eq_getElem h]
structure ERel (L M : List Int) (n : Nat) (w : World) (iv : Value) (wr : World) : Prop where
  ex : ∃ j : Nat, j ≤ n ∧ iv = .int .i64 (j : Int) ∧ L.take j = M.take j ∧ Below w.heap.size w wr
set_option maxRecDepth 100000 in
set_option maxHeartbeats 1000000 in
theorem equal_any (v v' : Value) (rb rb' : Nat) (L M : List Int) (w : World) (hr : RowV w v rb L) (hr' : RowV w v' rb' M) (hL : L.length ≤ 1000) (hM : M.length ≤ 1000) :
    Calls Try.prog 46 #[v, v'] w fun e w' => e = .returned (.bool (decide (L = M))) ∧ Below w.heap.size w w' := by
  obtain ⟨A, c, rfl, hc⟩ := hr.slice
  obtain ⟨A', c', rfl, hc'⟩ := hr'.slice
  obtain ⟨n, hn⟩ : ∃ n, L.length = n := ⟨_, rfl⟩
  obtain ⟨m, hm⟩ : ∃ m, M.length = m := ⟨_, rfl⟩
  have HR := Lib.hid hr
  have HR' := Lib.hid hr'
  have HN := Lib.hid hn
  have HM := Lib.hid hm
  have HL : Hid (n ≤ 1000) := by unfold Hid; omega
  rw [hn] at HR hc ⊢
  rw [hm] at HR' hc' ⊢
  clear hr hr' hL hM hn hm
  by_cases hnm : n = m
  · subst hnm
    obtain ⟨eq, heq⟩ : ∃ eq, decide (L = M) = eq := ⟨_, rfl⟩
    have HE := Lib.hid heq
    rw [heq]
    clear heq
    go_enter Try.func46, Try.ntmps46
    go_wp2_with fail
    go_loopw [13] (fun i wr => ERel L M n w i wr) (fun i _ => 1001 - (intOf i).toNat)
    case atStart => exact ⟨⟨0, Nat.zero_le _, rfl, rfl, Below.refl _ _⟩⟩
    case round =>
      obtain ⟨⟨j, hj, rfl, htk, hb⟩⟩ := hrel
      have HB := Lib.hid hb
      have HTK := Lib.hid htk
      clear hb htk
      by_cases hlt : j < n
      · obtain ⟨⟨c1, hv⟩, d0, hrl⟩ := RowV.cells (w := w) (rb := rb) (L := L) HR.out j (by rw [HN.out]; exact hlt)
        obtain ⟨⟨c2, hv'⟩, e0, hrl'⟩ := RowV.cells (w := w) (rb := rb') (L := M) HR'.out j (by rw [HM.out]; exact hlt)
        injection hv with hv _ hcc
        injection hv' with hv' _ hcc'
        subst hv hcc hv' hcc'
        have d0 := cell_later HB.out d0
        have e0 := cell_later HB.out e0
        have hjI : (j : Int) < (n : Int) := by omega
        have hj2 : (j : Int) < 1000 := by have := HL.out; omega
        have hj1 : Hid (j < 1000) := by unfold Hid; omega
        obtain ⟨a, ha⟩ : ∃ a, Hid (L.getD j 0 = a) := ⟨_, rfl⟩
        obtain ⟨a', ha'⟩ : ∃ a, Hid (M.getD j 0 = a) := ⟨_, rfl⟩
        rw [ha.out] at d0
        rw [ha'.out] at e0
        have HLT : Hid (j < n) := hlt
        by_cases he : a = a'
        · have HT2 : Hid (L.take (j + 1) = M.take (j + 1)) := by
            unfold Hid
            rw [take_getD (by rw [HN.out]; exact hlt), take_getD (by rw [HM.out]; exact hlt), HTK.out, ha.out, ha'.out, he]
          subst he
          clear hj hlt
          go_wp2_with fail
          refine wp_region_held_drew (S := (fun w' => Below wr.heap.size wr w' ∧ w'.cell? ⟨rb, j, none⟩ = some (.int .i64 a) ∧ w'.cell? ⟨rb', j, none⟩ = some (.int .i64 a))) (by kernel_rfl) ?_ (fun hHeld => ?_)
          · exact ⟨(Below.refl _ _).drew, d0, e0⟩
          refine takeD (i := 0) (d := some 16) (v := ?_) _ rfl rfl (by kernel_rfl) (by kernel_rfl) (by kernel_rfl) (fun _ _ _ h => h) (by rfl) ?_ (by assumption) ?_
          rotate_left
          · (intro w hSw; (try dsimp only at hSw); go_simp) <;> with_reducible rfl
          try simp only [Act.put, List.setIfInBounds_toArray, List.set_cons_zero, List.set_cons_succ]
          refine takeD (i := 1) (d := some 17) (v := ?_) _ rfl rfl (by kernel_rfl) (by kernel_rfl) (by kernel_rfl) (fun _ _ _ h => h) (by rfl) ?_ (by assumption) ?_
          rotate_left
          · (intro w hSw; (try dsimp only at hSw); go_simp) <;> with_reducible rfl
          try simp only [Act.put, List.setIfInBounds_toArray, List.set_cons_zero, List.set_cons_succ]
          refine takeD (i := 2) (d := some 18) (v := ?_) _ rfl rfl (by kernel_rfl) (by kernel_rfl) (by kernel_rfl) (fun _ _ _ h => h) (by rfl) ?_ (by assumption) ?_
          rotate_left
          · (intro w hSw; (try dsimp only at hSw); go_simp) <;> with_reducible rfl
          try simp only [Act.put, List.setIfInBounds_toArray, List.set_cons_zero, List.set_cons_succ]
          refine takeD (i := 3) (d := some 19) (v := ?_) _ rfl rfl (by kernel_rfl) (by kernel_rfl) (by kernel_rfl) (fun _ _ _ h => h) (by rfl) ?_ (by assumption) ?_
          rotate_left
          · (intro w hSw; (try dsimp only at hSw); go_simp) <;> with_reducible rfl
          try simp only [Act.put, List.setIfInBounds_toArray, List.set_cons_zero, List.set_cons_succ]
          refine takeD (i := 4) (d := some 20) (v := ?_) _ rfl rfl (by kernel_rfl) (by kernel_rfl) (by kernel_rfl) (fun _ _ _ h => h) (by rfl) ?_ (by assumption) ?_
          rotate_left
          · (intro w hSw; (try dsimp only at hSw); go_simp) <;> with_reducible rfl
          try simp only [Act.put, List.setIfInBounds_toArray, List.set_cons_zero, List.set_cons_succ]
          refine takeD (i := 5) (d := some 21) (v := ?_) _ rfl rfl (by kernel_rfl) (by kernel_rfl) (by kernel_rfl) (fun _ _ _ h => h) (by rfl) ?_ (by assumption) ?_
          rotate_left
          · (intro w hSw; (try dsimp only at hSw); go_simp) <;> with_reducible rfl
          try simp only [Act.put, List.setIfInBounds_toArray, List.set_cons_zero, List.set_cons_succ]
          refine takeD (i := 6) (d := some 22) (v := ?_) _ rfl rfl (by kernel_rfl) (by kernel_rfl) (by kernel_rfl) (fun _ _ _ h => h) (by rfl) ?_ (by assumption) ?_
          rotate_left
          · (intro w hSw; (try dsimp only at hSw); go_simp) <;> with_reducible rfl
          try simp only [Act.put, List.setIfInBounds_toArray, List.set_cons_zero, List.set_cons_succ]
          refine takeD (i := 7) (d := some 23) (v := ?_) _ rfl rfl (by kernel_rfl) (by kernel_rfl) (by kernel_rfl) (fun _ _ _ h => h) (by rfl) ?_ (by assumption) ?_
          rotate_left
          · (intro w hSw; (try dsimp only at hSw); go_simp) <;> with_reducible rfl
          try simp only [Act.put, List.setIfInBounds_toArray, List.set_cons_zero, List.set_cons_succ]
          refine takeD (i := 8) (d := some 24) (v := ?_) _ rfl rfl (by kernel_rfl) (by kernel_rfl) (by kernel_rfl) (fun _ _ _ h => h) (by rfl) ?_ (by assumption) ?_
          rotate_left
          · (intro w hSw; (try dsimp only at hSw); go_simp) <;> with_reducible rfl
          try simp only [Act.put, List.setIfInBounds_toArray, List.set_cons_zero, List.set_cons_succ]
          refine wpAnyH_done (by kernel_rfl) ?_ _
          have HB2 := Lib.hid (HB.out.trans (hHeld.1.mono HB.out.size))
          clear hHeld
          go_wp2_with fail
          go_roundw
          case rel => first | exact ⟨⟨j + 1, HLT.out, by go_num, HT2.out, HB2.out⟩⟩ | ((repeat apply Exists.intro); exact ⟨⟨⟨j + 1, HLT.out, by go_num, HT2.out, HB2.out⟩⟩, rfl⟩)
          case measure => have := hj1.out; simp [intOf]; omega
        · have HF : Hid (eq = false) := by
            unfold Hid
            rw [← HE.out, decide_eq_false_iff_not]
            intro h
            apply he
            rw [← ha.out, ← ha'.out, h]
          have hne1 : (a == a') = false := by rw [beq_eq_false_iff_ne]; exact he
          have hne2 : (a != a') = true := by rw [bne_iff_ne]; exact he
          clear hj hlt
          go_wp2_with fail
          refine wp_region_held_drew (S := (fun w' => Below wr.heap.size wr w' ∧ w'.cell? ⟨rb, j, none⟩ = some (.int .i64 a) ∧ w'.cell? ⟨rb', j, none⟩ = some (.int .i64 a'))) (by kernel_rfl) ?_ (fun hHeld => ?_)
          · exact ⟨(Below.refl _ _).drew, d0, e0⟩
          refine takeD (i := 0) (d := some 16) (v := ?_) _ rfl rfl (by kernel_rfl) (by kernel_rfl) (by kernel_rfl) (fun _ _ _ h => h) (by rfl) ?_ (by assumption) ?_
          rotate_left
          · (intro w hSw; (try dsimp only at hSw); go_simp) <;> with_reducible rfl
          try simp only [Act.put, List.setIfInBounds_toArray, List.set_cons_zero, List.set_cons_succ]
          refine takeD (i := 1) (d := some 17) (v := ?_) _ rfl rfl (by kernel_rfl) (by kernel_rfl) (by kernel_rfl) (fun _ _ _ h => h) (by rfl) ?_ (by assumption) ?_
          rotate_left
          · (intro w hSw; (try dsimp only at hSw); go_simp) <;> with_reducible rfl
          try simp only [Act.put, List.setIfInBounds_toArray, List.set_cons_zero, List.set_cons_succ]
          refine takeD (i := 2) (d := some 18) (v := ?_) _ rfl rfl (by kernel_rfl) (by kernel_rfl) (by kernel_rfl) (fun _ _ _ h => h) (by rfl) ?_ (by assumption) ?_
          rotate_left
          · (intro w hSw; (try dsimp only at hSw); go_simp) <;> with_reducible rfl
          try simp only [Act.put, List.setIfInBounds_toArray, List.set_cons_zero, List.set_cons_succ]
          refine takeD (i := 3) (d := some 19) (v := ?_) _ rfl rfl (by kernel_rfl) (by kernel_rfl) (by kernel_rfl) (fun _ _ _ h => h) (by rfl) ?_ (by assumption) ?_
          rotate_left
          · (intro w hSw; (try dsimp only at hSw); go_simp) <;> with_reducible rfl
          try simp only [Act.put, List.setIfInBounds_toArray, List.set_cons_zero, List.set_cons_succ]
          refine takeD (i := 4) (d := some 20) (v := ?_) _ rfl rfl (by kernel_rfl) (by kernel_rfl) (by kernel_rfl) (fun _ _ _ h => h) (by rfl) ?_ (by assumption) ?_
          rotate_left
          · (intro w hSw; (try dsimp only at hSw); go_simp) <;> with_reducible rfl
          try simp only [Act.put, List.setIfInBounds_toArray, List.set_cons_zero, List.set_cons_succ]
          refine takeD (i := 5) (d := some 21) (v := ?_) _ rfl rfl (by kernel_rfl) (by kernel_rfl) (by kernel_rfl) (fun _ _ _ h => h) (by rfl) ?_ (by assumption) ?_
          rotate_left
          · (intro w hSw; (try dsimp only at hSw); go_simp) <;> with_reducible rfl
          try simp only [Act.put, List.setIfInBounds_toArray, List.set_cons_zero, List.set_cons_succ]
          refine takeD (i := 6) (d := some 22) (v := ?_) _ rfl rfl (by kernel_rfl) (by kernel_rfl) (by kernel_rfl) (fun _ _ _ h => h) (by rfl) ?_ (by assumption) ?_
          rotate_left
          · (intro w hSw; (try dsimp only at hSw); go_simp) <;> with_reducible rfl
          try simp only [Act.put, List.setIfInBounds_toArray, List.set_cons_zero, List.set_cons_succ]
          refine takeD (i := 7) (d := some 23) (v := ?_) _ rfl rfl (by kernel_rfl) (by kernel_rfl) (by kernel_rfl) (fun _ _ _ h => h) (by rfl) ?_ (by assumption) ?_
          rotate_left
          · (intro w hSw; (try dsimp only at hSw); go_simp) <;> with_reducible rfl
          try simp only [Act.put, List.setIfInBounds_toArray, List.set_cons_zero, List.set_cons_succ]
          refine takeD (i := 8) (d := some 24) (v := ?_) _ rfl rfl (by kernel_rfl) (by kernel_rfl) (by kernel_rfl) (fun _ _ _ h => h) (by rfl) ?_ (by assumption) ?_
          rotate_left
          · (intro w hSw; (try dsimp only at hSw); go_simp) <;> with_reducible rfl
          try simp only [Act.put, List.setIfInBounds_toArray, List.set_cons_zero, List.set_cons_succ]
          refine wpAnyH_done (by kernel_rfl) ?_ _
          have HB2 := Lib.hid (HB.out.trans (hHeld.1.mono HB.out.size))
          clear hHeld
          go_wp2_with fail
          go_ret
          exact ⟨by rw [HF.out]; rfl, HB2.out⟩
      · have hjI : ¬ (j : Int) < (n : Int) := by omega
        have HF : Hid (eq = true) := by
          unfold Hid
          rw [← HE.out, decide_eq_true_iff]
          have := HTK.out
          rwa [List.take_of_length_le (by rw [HN.out]; omega), List.take_of_length_le (by rw [HM.out]; omega)] at this
        clear hj hlt
        go_wp2_with fail
        go_ret
        exact ⟨by rw [HF.out]; rfl, HB.out⟩
  · have hne : ((n : Int) == (m : Int)) = false := by rw [beq_eq_false_iff_ne]; omega
    have hne2 : ((n : Int) != (m : Int)) = true := by rw [bne_iff_ne]; omega
    have hf : decide (L = M) = false := by
      rw [decide_eq_false_iff_not]
      intro h
      have h1 := HN.out; have h2 := HM.out
      rw [h] at h1; omega
    rw [hf]
    clear hf
    go_enter Try.func46, Try.ntmps46
    go_wp2_with fail
    go_ret
    exact ⟨rfl, Below.refl _ _⟩
theorem row_new (w : World) : (w.alloc (.cells #[] 3)).ownsRow 0 3 1 (.slice (some ⟨w.heap.size, 0, none⟩) 0 0) 0 (C []) :=
  ⟨rfl, .inr ⟨w.heap.size, 0, #[], rfl, Nat.zero_le _, heap_alloc_new w _, Nat.le_refl _, by unfold maxLen; omega, rfl, rfl⟩⟩
end Go.Proofs.Ytbnnpfhgpbaedaa.I
