/-
  What a semaphore does: New, Count, Signal, Drop. Each statement bears its own conditions.
-/
import Derived.Test.YtobnhjkcbhajbaaSmA
namespace Go.Proofs.Ytobnhjkcbhajbaa.S
open Go.RowKit Go.Proofs.Ytobnhjkcbhajbaa.W
set_option linter.unusedVariables false
set_option linter.unusedSimpArgs false
def idsP (L : List (Int × Int)) : List Int := L.map (·.1)
theorem idsP_len (L : List (Int × Int)) : (idsP L).length = L.length := by simp [idsP]
theorem idsP_getD {L : List (Int × Int)} {k : Nat} (h : k < L.length) : (idsP L)[k]? = some (L.getD k (0, 0)).1 := by
  simp [idsP, List.getD_eq_getElem?_getD, List.getElem?_eq_getElem h]
theorem pos_in {L : List (Int × Int)} {id : Int} (h : id ∈ idsP L) : ∃ k, k < L.length ∧ pos L id = k ∧ posI L id = (k : Int) ∧ (L.getD k (0, 0)).1 = id := by
  have h1 : pos L id < L.length := by
    unfold pos
    rw [List.findIdx_lt_length]
    obtain ⟨x, hx, rfl⟩ := List.mem_map.1 h
    exact ⟨x, hx, by simp⟩
  refine ⟨pos L id, h1, rfl, by unfold posI; rw [if_pos h1], ?_⟩
  have := List.findIdx_getElem (p := fun x : Int × Int => decide (x.1 = id)) (xs := L) (w := h1)
  rw [List.getD_eq_getElem?_getD, List.getElem?_eq_getElem h1]
  exact of_decide_eq_true this
theorem pos_out {L : List (Int × Int)} {id : Int} (h : id ∉ idsP L) : posI L id = -1 := by
  unfold posI
  rw [if_neg]
  intro h1
  apply h
  have := List.findIdx_getElem (p := fun x : Int × Int => decide (x.1 = id)) (xs := L) (w := h1)
  exact List.mem_map.2 ⟨L[pos L id], List.getElem_mem h1, of_decide_eq_true this⟩
theorem RowV.pos {w : World} {v : Value} {rb : Nat} {L : List (Int × Int)} (h : RowV w v rb L) (hl : L ≠ []) : rb < w.heap.size := by
  rcases h.form with ⟨_, h0⟩ | ⟨cap, cur, _, hg, _⟩
  · exact absurd h0 hl
  · exact (Array.getElem?_eq_some_iff.1 hg).1
theorem set_far {w : World} {g k : Nat} (o : Nat) (v : Value) (h : k ≠ g) : (w.setCell ⟨g, o, none⟩ v).heap[k]? = w.heap[k]? := Below.heap_setCell _ _ _ _ h
/-- A list is laid into cell 3. -/
theorem SV.put {lo : Nat} {w : World} {g rb : Nat} {s : SM} {L : List (Int × Int)} (E : SV lo w g rb s L) {X W3 : World} {v v' : Value} {rx rb' : Nat} {L' : List (Int × Int)}
    (a : X.heap[g]? = some (.cells #[.int .i64 s.c, .int .i64 s.m, .bool s.p, v] 69 (0, 0))) (hch : Ch g rb w X) (c : rx ≠ g) (d : (v = .slice none 0 0 ∧ L = [] ∧ rb = g ∧ X.heap.size + 9 ≤ rx) ∨ (rx = rb ∧ rb ≠ g))
    (hp : Past rx X W3) (hr : RowV W3 v' rb' L') (hrb : rb' = rx ∨ X.heap.size ≤ rb') (hlt : rb' < W3.heap.size) :
    SV lo (W3.setCell ⟨g, 3, none⟩ v') g rb' s L' ∧ Nx g rb rb' w (W3.setCell ⟨g, 3, none⟩ v') := by
  have hl := E.lt
  have hw := E.low
  have hx := hch.size
  have h3 := hp.size
  have a3 : W3.heap[g]? = some (.cells #[.int .i64 s.c, .int .i64 s.m, .bool s.p, v] 69 (0, 0)) := (hp.block g (by omega) (fun e => c e.symm)).trans a
  have hs := set_at a3 3 v'
  have hg : rb' ≠ g := by rcases d with d | d <;> rcases hrb with e | e <;> omega
  refine ⟨⟨⟨hw.1, ?_⟩, ⟨by simp; omega, by simpa using hlt⟩, v', hs, hr.keep (.inr (set_far _ _ hg)), .inr hg⟩, ⟨hp.os.trans hch.os, hp.tape.trans hch.tape, hp.output.trans hch.output, by simp; omega, fun k hk k1 k2 => ?_⟩, ?_⟩
  · rcases d with d | d <;> rcases hrb with e | e <;> omega
  · rw [set_far _ _ k1, hp.block k (by omega) (by rcases d with d | d <;> omega)]
    exact hch.block k hk k1 k2
  · rcases d with d | d <;> rcases hrb with e | e <;> omega
/-- The count is changed. -/
theorem SV.cnt {lo : Nat} {w : World} {g rb : Nat} {s : SM} {L : List (Int × Int)} (E : SV lo w g rb s L) (c : Int) : SV lo (w.setCell ⟨g, 0, none⟩ (.int .i64 c)) g rb { s with c := c } L ∧ Nx g rb rb w (w.setCell ⟨g, 0, none⟩ (.int .i64 c)) := by
  obtain ⟨v, a, b, d⟩ := E.ex
  have hs := set_at a 0 (.int .i64 c)
  have hp : Past g w (w.setCell ⟨g, 0, none⟩ (.int .i64 c)) := (Past.refl g w).setCell 0 _
  refine ⟨⟨E.low, ⟨Nat.lt_of_lt_of_le E.lt.1 hp.size, Nat.lt_of_lt_of_le E.lt.2 hp.size⟩, v, hs, b.keep ?_, d⟩, Ch.of_past hp, .inl rfl⟩
  rcases d with d | d
  · exact .inl d.1
  · exact .inr (hp.block rb E.lt.2 d)
theorem new_any (c m : Int) (p : Bool) (w : World) (h : 1 ≤ m ∧ m ≤ 65535 ∧ 0 ≤ c ∧ c ≤ m) : Calls Try.prog 10 #[.int .i64 c, .int .i64 m, .bool p] w fun e w' => e = .returned (.tuple #[.pointer (some ⟨w.heap.size, 0, none⟩), .int .i64 0]) ∧ SV w.heap.size w' w.heap.size w.heap.size ⟨c, m, p⟩ [] ∧ Below w.heap.size w w' := by
  have h1 : ¬ m < 1 := by omega
  have h2 : ¬ (65535 : Int) < m := by omega
  have h3 : ¬ c < 0 := by omega
  have h4 : ¬ m < c := by omega
  clear h
  go_enter Try.func10, Try.ntmps10
  go_wp2_with fail
  go_ret2
  exact ⟨rfl, SV.nil (Nat.le_refl _) (heap_alloc_new w _), (Below.refl _ _).alloc (Nat.le_refl _) _⟩
theorem count_any (lo g rb : Nat) (s : SM) (L : List (Int × Int)) (w : World) (h : SV lo w g rb s L) :
    Calls Try.prog 19 #[.pointer (some ⟨g, 0, none⟩)] w fun e w' => e = .returned (.int .i64 s.c) ∧ w' = w := by
  obtain ⟨v, a, b, c⟩ := h.ex
  have d0 : w.cell? ⟨g, 0, none⟩ = some (.int .i64 s.c) := by rw [(row_cell a 0).1]; rfl
  clear a b c h
  go_enter Try.func19, Try.ntmps19
  go_wp2_with fail
  go_ret
  exact ⟨rfl, rfl⟩
set_option maxRecDepth 100000 in
set_option maxHeartbeats 2000000 in
theorem drop_any (lo g rb : Nat) (s : SM) (L : List (Int × Int)) (id : Int) (w : World) (h : SV lo w g rb s L) (hL : L.length ≤ 999) :
    Calls Try.prog 15 #[.pointer (some ⟨g, 0, none⟩), .int .i64 id] w fun e w' => e = .returned (.bool (decide (id ∈ idsP L))) ∧ ∃ rb', SV lo w' g rb' s (if id ∈ idsP L then L.take (pos L id) ++ L.drop (pos L id + 1) else L) ∧ Nx g rb rb' w w' := by
  have FI := Lib.hid (find_any g rb L id w h.tv (by omega))
  have H := Lib.hid h
  have HL := Lib.hid hL
  clear h hL
  by_cases hx : id ∈ idsP L
  · obtain ⟨k, hk, hpk, hpi, _⟩ := pos_in hx
    rw [hpi] at FI
    rw [decide_eq_true hx, if_pos hx, hpk]
    have hk0 : ¬ (k : Int) < 0 := by omega
    have hk1 : (k : Int) < 1000 := by have := HL.out; omega
    have HK : Hid (k < L.length) := hk
    clear hpi hpk hk hx
    go_enter Try.func15, Try.ntmps15
    go_wp2_with fail
    refine FI.out.mono ?_
    rintro e w1 ⟨rfl, b1⟩
    have E1 := Lib.hid (H.out.below b1)
    have B1 := Lib.hid b1
    obtain ⟨v, rx, a, b, c, d⟩ := E1.out.rows
    have d3 : w1.cell? ⟨g, 3, none⟩ = some v := by rw [(row_cell a 3).1]; rfl
    have DE := Lib.hid (delete_any v rx k (k + 1) L w1 b (by omega) HK.out (by have := HL.out; omega))
    rw [Int.natCast_add, Int.natCast_one] at DE
    have HA := Lib.hid a
    have HB := Lib.hid b
    have HC := Lib.hid c
    have HD := Lib.hid d
    obtain ⟨A, n, hv⟩ := slice_form b.own
    subst hv
    obtain ⟨m, hm⟩ : ∃ m, L.length = m := ⟨_, rfl⟩
    have HM := Lib.hid hm
    rw [hm] at DE HB HD d3 HA
    obtain ⟨M, hM⟩ : ∃ M, L.take k ++ L.drop (k + 1) = M := ⟨_, rfl⟩
    rw [hM] at DE
    have HMM := Lib.hid hM
    clear a b c d hm b1 FI hM
    go_wp2_with fail
    refine DE.out.mono ?_
    rintro e w2 ⟨v2, rfl, r1, r2⟩
    have hg2 := (r2.block g (by have := E1.out.lt; omega) (fun e => HC.out e.symm)).trans HA.out
    have e3 : w2.cell? ⟨g, 3, none⟩ = some (.slice A m n) := by rw [(row_cell hg2 3).1]; rfl
    have f3 : w2.frozen? ⟨g, 3, none⟩ = false := (row_cell hg2 3).2
    have Q : Hid (∃ rb', SV lo (w2.setCell ⟨g, 3, none⟩ v2) g rb' s M ∧ Nx g rb rb' w (w2.setCell ⟨g, 3, none⟩ v2)) := by
      refine ⟨rx, H.out.put HA.out (Ch.of_below B1.out) HC.out ?_ r2 r1 (.inl rfl) ?_⟩
      · rcases HD.out with d | d
        · exact .inl d
        · exact .inr d
      · rcases HD.out with d | d
        · have := HK.out; rw [d.2.1] at this; simp at this
        · have := H.out.lt; have := B1.out.size; have := r2.size; omega
    obtain ⟨A2, n2, hv2⟩ := slice_form r1.own
    subst hv2
    clear r1 r2 hg2 DE
    go_wp2_with fail
    go_ret
    rw [HMM.out]
    exact ⟨rfl, Q.out⟩
  · rw [pos_out hx] at FI
    rw [decide_eq_false hx, if_neg hx]
    clear hx
    go_enter Try.func15, Try.ntmps15
    go_wp2_with fail
    refine FI.out.mono ?_
    rintro e w1 ⟨rfl, b1⟩
    have Q : Hid (SV lo w1 g rb s L ∧ Nx g rb rb w w1) := ⟨H.out.below b1, Nx.of_below b1⟩
    clear b1 FI
    go_wp2_with fail
    go_ret
    exact ⟨rfl, rb, Q.out⟩
set_option maxRecDepth 100000 in
set_option maxHeartbeats 2000000 in
theorem signal_wakes (lo g rb : Nat) (s : SM) (x : Int × Int) (L : List (Int × Int)) (w : World) (h : SV lo w g rb s (x :: L)) (hL : L.length ≤ 998) :
    Calls Try.prog 14 #[.pointer (some ⟨g, 0, none⟩)] w fun e w' => e = .returned (.tuple #[.int .i64 x.1, .bool true, .int .i64 0]) ∧ ∃ rb', SV lo w' g rb' s L ∧ Nx g rb rb' w w' := by
  obtain ⟨v, rx, a, b, c, d⟩ := h.rows
  have d3 : w.cell? ⟨g, 3, none⟩ = some v := by rw [(row_cell a 3).1]; rfl
  obtain ⟨⟨cap, hv⟩, e0, _⟩ := b.cells 0 (by simp)
  subst hv
  have e0 : w.cell? ⟨rx, 0, none⟩ = some (.int .i64 x.1) := e0
  have DE := Lib.hid (delete_any (.slice (some ⟨rx, 0, none⟩) (x :: L).length cap) rx 0 1 (x :: L) w b (by omega) (by simp) (by simp; omega))
  have H := Lib.hid h
  have HA := Lib.hid a
  have HC := Lib.hid c
  have HD := Lib.hid d
  obtain ⟨m, hm⟩ : ∃ m, (x :: L).length = m := ⟨_, rfl⟩
  have hm0 : (0 : Int) < (m : Int) := by rw [← hm]; simp
  have hm1 : 0 < m := by rw [← hm]; simp
  rw [hm] at DE HD d3 HA
  have DE2 : Hid (Calls Try.prog 34 #[.slice (some ⟨rx, 0, none⟩) m cap, .int .i64 0, .int .i64 1] w fun e w' => ∃ v', e = .returned v' ∧ RowV w' v' rx L ∧ Past rx w w') := DE.out
  clear a b c d h hm hL DE
  go_enter Try.func14, Try.ntmps14
  go_wp2_with fail
  refine DE2.out.mono ?_
  rintro e w2 ⟨v2, rfl, r1, r2⟩
  have hg2 := (r2.block g (by have := H.out.lt; omega) (fun e => HC.out e.symm)).trans HA.out
  have e3 : w2.cell? ⟨g, 3, none⟩ = some (.slice (some ⟨rx, 0, none⟩) m cap) := by rw [(row_cell hg2 3).1]; rfl
  have f3 : w2.frozen? ⟨g, 3, none⟩ = false := (row_cell hg2 3).2
  have Q : Hid (∃ rb', SV lo (w2.setCell ⟨g, 3, none⟩ v2) g rb' s L ∧ Nx g rb rb' w (w2.setCell ⟨g, 3, none⟩ v2)) := by
    refine ⟨rx, H.out.put HA.out (Ch.refl _ _ _) HC.out ?_ r2 r1 (.inl rfl) ?_⟩
    · rcases HD.out with d | d
      · exact .inl d
      · exact .inr d
    · rcases HD.out with d | d
      · exact absurd d.2.1 (by simp)
      · have := H.out.lt; have := r2.size; omega
  obtain ⟨A2, n2, hv2⟩ := slice_form r1.own
  subst hv2
  clear r1 r2 hg2 DE2
  go_wp2_with fail
  go_ret3
  exact ⟨rfl, Q.out⟩
set_option maxRecDepth 100000 in
set_option maxHeartbeats 2000000 in
theorem signal_full (lo g rb : Nat) (c m : Int) (p : Bool) (w : World) (h : SV lo w g rb ⟨c, m, p⟩ []) (hcm : c = m) :
    Calls Try.prog 14 #[.pointer (some ⟨g, 0, none⟩)] w fun e w' => e = .returned (.tuple #[.int .i64 0, .bool false, .int .i64 8]) ∧ SV lo w' g rb ⟨c, m, p⟩ [] ∧ Nx g rb rb w w' := by
  obtain ⟨v, a, b, cc⟩ := h.ex
  have d0 : w.cell? ⟨g, 0, none⟩ = some (.int .i64 c) := by rw [(row_cell a 0).1]; rfl
  have d1 : w.cell? ⟨g, 1, none⟩ = some (.int .i64 m) := by rw [(row_cell a 1).1]; rfl
  have d3 : w.cell? ⟨g, 3, none⟩ = some v := by rw [(row_cell a 3).1]; rfl
  obtain ⟨A, n, hv⟩ := slice_form b.own
  subst hv
  have d3 : w.cell? ⟨g, 3, none⟩ = some (.slice A 0 n) := d3
  have hcb : (c == m) = true := by simp [hcm]
  have hdb : decide (c = m) = true := by simp [hcm]
  have H := Lib.hid h
  subst hcm
  clear a b cc h 
  go_enter Try.func14, Try.ntmps14
  go_wp2_with fail
  refine wp_region_held_drew (S := (fun w' => Below w.heap.size w w' ∧ w'.cell? ⟨g, 0, none⟩ = some (.int .i64 c) ∧ w'.cell? ⟨g, 1, none⟩ = some (.int .i64 c) ∧ w'.cell? ⟨g, 3, none⟩ = some (.slice A 0 n))) (by kernel_rfl) ?_ (fun hHeld => ?_)
  · exact ⟨(Below.refl _ _).drew, d0, d1, d3⟩
  refine takeD (i := 0) (d := some 29) (v := ?_) _ rfl rfl (by kernel_rfl) (by kernel_rfl) (by kernel_rfl) (fun _ _ _ h => h) (by rfl) ?_ (by assumption) ?_
  rotate_left
  · (intro w hSw; (try dsimp only at hSw); go_simp) <;> with_reducible rfl
  try simp only [Act.put, List.setIfInBounds_toArray, List.set_cons_zero, List.set_cons_succ]
  refine takeD (i := 1) (d := some 30) (v := ?_) _ rfl rfl (by kernel_rfl) (by kernel_rfl) (by kernel_rfl) (fun _ _ _ h => h) (by rfl) ?_ (by assumption) ?_
  rotate_left
  · (intro w hSw; (try dsimp only at hSw); go_simp) <;> with_reducible rfl
  try simp only [Act.put, List.setIfInBounds_toArray, List.set_cons_zero, List.set_cons_succ]
  refine takeD (i := 2) (d := some 31) (v := ?_) _ rfl rfl (by kernel_rfl) (by kernel_rfl) (by kernel_rfl) (fun _ _ _ h => h) (by rfl) ?_ (by assumption) ?_
  rotate_left
  · (intro w hSw; (try dsimp only at hSw); go_simp) <;> with_reducible rfl
  try simp only [Act.put, List.setIfInBounds_toArray, List.set_cons_zero, List.set_cons_succ]
  refine takeD (i := 3) (d := some 32) (v := ?_) _ rfl rfl (by kernel_rfl) (by kernel_rfl) (by kernel_rfl) (fun _ _ _ h => h) (by rfl) ?_ (by assumption) ?_
  rotate_left
  · (intro w hSw; (try dsimp only at hSw); go_simp) <;> with_reducible rfl
  try simp only [Act.put, List.setIfInBounds_toArray, List.set_cons_zero, List.set_cons_succ]
  refine takeD (i := 4) (d := some 33) (v := ?_) _ rfl rfl (by kernel_rfl) (by kernel_rfl) (by kernel_rfl) (fun _ _ _ h => h) (by rfl) ?_ (by assumption) ?_
  rotate_left
  · (intro w hSw; (try dsimp only at hSw); go_simp) <;> with_reducible rfl
  try simp only [Act.put, List.setIfInBounds_toArray, List.set_cons_zero, List.set_cons_succ]
  refine takeD (i := 5) (d := some 34) (v := ?_) _ rfl rfl (by kernel_rfl) (by kernel_rfl) (by kernel_rfl) (fun _ _ _ h => h) (by rfl) ?_ (by assumption) ?_
  rotate_left
  · (intro w hSw; (try dsimp only at hSw); go_simp) <;> with_reducible rfl
  try simp only [Act.put, List.setIfInBounds_toArray, List.set_cons_zero, List.set_cons_succ]
  refine takeD (i := 6) (d := some 35) (v := ?_) _ rfl rfl (by kernel_rfl) (by kernel_rfl) (by kernel_rfl) (fun _ _ _ h => h) (by rfl) ?_ (by assumption) ?_
  rotate_left
  · (intro w hSw; (try dsimp only at hSw); go_simp) <;> with_reducible rfl
  try simp only [Act.put, List.setIfInBounds_toArray, List.set_cons_zero, List.set_cons_succ]
  refine takeD (i := 7) (d := some 36) (v := ?_) _ rfl rfl (by kernel_rfl) (by kernel_rfl) (by kernel_rfl) (fun _ _ _ h => h) (by rfl) ?_ (by assumption) ?_
  rotate_left
  · (intro w hSw; (try dsimp only at hSw); go_simp) <;> with_reducible rfl
  try simp only [Act.put, List.setIfInBounds_toArray, List.set_cons_zero, List.set_cons_succ]
  refine takeD (i := 8) (d := some 37) (v := ?_) _ rfl rfl (by kernel_rfl) (by kernel_rfl) (by kernel_rfl) (fun _ _ _ h => h) (by rfl) ?_ (by assumption) ?_
  rotate_left
  · (intro w hSw; (try dsimp only at hSw); go_simp) <;> with_reducible rfl
  try simp only [Act.put, List.setIfInBounds_toArray, List.set_cons_zero, List.set_cons_succ]
  refine takeD (i := 9) (d := some 28) (v := ?_) _ rfl rfl (by kernel_rfl) (by kernel_rfl) (by kernel_rfl) (fun _ _ _ h => h) (by rfl) ?_ (by assumption) ?_
  rotate_left
  · (intro w hSw; (try dsimp only at hSw); go_simp) <;> with_reducible rfl
  try simp only [Act.put, List.setIfInBounds_toArray, List.set_cons_zero, List.set_cons_succ]
  refine wpAnyH_done (by kernel_rfl) ?_ _
  have HB := Lib.hid hHeld.1
  clear hHeld
  go_wp2_with fail
  go_ret3
  exact ⟨rfl, H.out.below HB.out, Nx.of_below HB.out⟩
set_option maxRecDepth 100000 in
set_option maxHeartbeats 2000000 in
theorem signal_more (lo g rb : Nat) (c m : Int) (p : Bool) (w : World) (h : SV lo w g rb ⟨c, m, p⟩ []) (hcm : ¬ c = m) (hc : 0 ≤ c ∧ c ≤ 65535) :
    Calls Try.prog 14 #[.pointer (some ⟨g, 0, none⟩)] w fun e w' => e = .returned (.tuple #[.int .i64 0, .bool false, .int .i64 0]) ∧ SV lo w' g rb ⟨c + 1, m, p⟩ [] ∧ Nx g rb rb w w' := by
  obtain ⟨v, a, b, cc⟩ := h.ex
  have d0 : w.cell? ⟨g, 0, none⟩ = some (.int .i64 c) := by rw [(row_cell a 0).1]; rfl
  have d1 : w.cell? ⟨g, 1, none⟩ = some (.int .i64 m) := by rw [(row_cell a 1).1]; rfl
  have d3 : w.cell? ⟨g, 3, none⟩ = some v := by rw [(row_cell a 3).1]; rfl
  obtain ⟨A, n, hv⟩ := slice_form b.own
  subst hv
  have d3 : w.cell? ⟨g, 3, none⟩ = some (.slice A 0 n) := d3
  have hcb : (c == m) = false := by simp [hcm]
  have hdb : decide (c = m) = false := by simp [hcm]
  have H := Lib.hid h
  have hc1 : c < 65536 := by omega
  have hc0 : 0 ≤ c := hc.1
  clear a b cc h hcm hc
  go_enter Try.func14, Try.ntmps14
  go_wp2_with fail
  refine wp_region_held_drew (S := (fun w' => Below w.heap.size w w' ∧ w'.cell? ⟨g, 0, none⟩ = some (.int .i64 c) ∧ w'.cell? ⟨g, 1, none⟩ = some (.int .i64 m) ∧ w'.cell? ⟨g, 3, none⟩ = some (.slice A 0 n))) (by kernel_rfl) ?_ (fun hHeld => ?_)
  · exact ⟨(Below.refl _ _).drew, d0, d1, d3⟩
  refine takeD (i := 0) (d := some 29) (v := ?_) _ rfl rfl (by kernel_rfl) (by kernel_rfl) (by kernel_rfl) (fun _ _ _ h => h) (by rfl) ?_ (by assumption) ?_
  rotate_left
  · (intro w hSw; (try dsimp only at hSw); go_simp) <;> with_reducible rfl
  try simp only [Act.put, List.setIfInBounds_toArray, List.set_cons_zero, List.set_cons_succ]
  refine takeD (i := 1) (d := some 30) (v := ?_) _ rfl rfl (by kernel_rfl) (by kernel_rfl) (by kernel_rfl) (fun _ _ _ h => h) (by rfl) ?_ (by assumption) ?_
  rotate_left
  · (intro w hSw; (try dsimp only at hSw); go_simp) <;> with_reducible rfl
  try simp only [Act.put, List.setIfInBounds_toArray, List.set_cons_zero, List.set_cons_succ]
  refine takeD (i := 2) (d := some 31) (v := ?_) _ rfl rfl (by kernel_rfl) (by kernel_rfl) (by kernel_rfl) (fun _ _ _ h => h) (by rfl) ?_ (by assumption) ?_
  rotate_left
  · (intro w hSw; (try dsimp only at hSw); go_simp) <;> with_reducible rfl
  try simp only [Act.put, List.setIfInBounds_toArray, List.set_cons_zero, List.set_cons_succ]
  refine takeD (i := 3) (d := some 32) (v := ?_) _ rfl rfl (by kernel_rfl) (by kernel_rfl) (by kernel_rfl) (fun _ _ _ h => h) (by rfl) ?_ (by assumption) ?_
  rotate_left
  · (intro w hSw; (try dsimp only at hSw); go_simp) <;> with_reducible rfl
  try simp only [Act.put, List.setIfInBounds_toArray, List.set_cons_zero, List.set_cons_succ]
  refine takeD (i := 4) (d := some 33) (v := ?_) _ rfl rfl (by kernel_rfl) (by kernel_rfl) (by kernel_rfl) (fun _ _ _ h => h) (by rfl) ?_ (by assumption) ?_
  rotate_left
  · (intro w hSw; (try dsimp only at hSw); go_simp) <;> with_reducible rfl
  try simp only [Act.put, List.setIfInBounds_toArray, List.set_cons_zero, List.set_cons_succ]
  refine takeD (i := 5) (d := some 34) (v := ?_) _ rfl rfl (by kernel_rfl) (by kernel_rfl) (by kernel_rfl) (fun _ _ _ h => h) (by rfl) ?_ (by assumption) ?_
  rotate_left
  · (intro w hSw; (try dsimp only at hSw); go_simp) <;> with_reducible rfl
  try simp only [Act.put, List.setIfInBounds_toArray, List.set_cons_zero, List.set_cons_succ]
  refine takeD (i := 6) (d := some 35) (v := ?_) _ rfl rfl (by kernel_rfl) (by kernel_rfl) (by kernel_rfl) (fun _ _ _ h => h) (by rfl) ?_ (by assumption) ?_
  rotate_left
  · (intro w hSw; (try dsimp only at hSw); go_simp) <;> with_reducible rfl
  try simp only [Act.put, List.setIfInBounds_toArray, List.set_cons_zero, List.set_cons_succ]
  refine takeD (i := 7) (d := some 36) (v := ?_) _ rfl rfl (by kernel_rfl) (by kernel_rfl) (by kernel_rfl) (fun _ _ _ h => h) (by rfl) ?_ (by assumption) ?_
  rotate_left
  · (intro w hSw; (try dsimp only at hSw); go_simp) <;> with_reducible rfl
  try simp only [Act.put, List.setIfInBounds_toArray, List.set_cons_zero, List.set_cons_succ]
  refine takeD (i := 8) (d := some 37) (v := ?_) _ rfl rfl (by kernel_rfl) (by kernel_rfl) (by kernel_rfl) (fun _ _ _ h => h) (by rfl) ?_ (by assumption) ?_
  rotate_left
  · (intro w hSw; (try dsimp only at hSw); go_simp) <;> with_reducible rfl
  try simp only [Act.put, List.setIfInBounds_toArray, List.set_cons_zero, List.set_cons_succ]
  refine takeD (i := 9) (d := some 28) (v := ?_) _ rfl rfl (by kernel_rfl) (by kernel_rfl) (by kernel_rfl) (fun _ _ _ h => h) (by rfl) ?_ (by assumption) ?_
  rotate_left
  · (intro w hSw; (try dsimp only at hSw); go_simp) <;> with_reducible rfl
  try simp only [Act.put, List.setIfInBounds_toArray, List.set_cons_zero, List.set_cons_succ]
  refine wpAnyH_done (by kernel_rfl) ?_ _
  have HB := Lib.hid hHeld.1
  have E2 := Lib.hid (H.out.below HB.out)
  have k0 := hHeld.2.1
  have f0 : w.drew.frozen? ⟨g, 0, none⟩ = false := by
    obtain ⟨v, a, _⟩ := E2.out.ex
    exact (row_cell a 0).2
  have Q := Lib.hid (E2.out.cnt (c + 1))
  clear hHeld
  go_wp2_with fail
  go_ret3
  exact ⟨rfl, Q.out.1, (Nx.of_below HB.out).trans Q.out.2⟩
end Go.Proofs.Ytobnhjkcbhajbaa.S
