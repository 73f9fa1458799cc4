/-
  Where an id is, and where it comes to stand. Each statement bears its own conditions.
-/
import Derived.Test.YtobnhjkcbhajbaaSmM
namespace Go.Proofs.Ytobnhjkcbhajbaa.S
open Go.RowKit Go.Proofs.Ytobnhjkcbhajbaa.W
set_option linter.unusedVariables false
set_option linter.unusedSimpArgs false
def pos (L : List (Int × Int)) (id : Int) : Nat := L.findIdx (fun x => decide (x.1 = id))
def posI (L : List (Int × Int)) (id : Int) : Int := if pos L id < L.length then (pos L id : Int) else -1
theorem pos_hit {L : List (Int × Int)} {id : Int} {j : Nat} (hj : j < L.length) (hn : ∀ k, k < j → (L.getD k (0, 0)).1 ≠ id) (h : (L.getD j (0, 0)).1 = id) : pos L id = j := by
  unfold pos
  rw [List.findIdx_eq hj]
  refine ⟨?_, fun k hk => ?_⟩
  · rw [List.getD_eq_getElem?_getD, List.getElem?_eq_getElem hj] at h
    simpa using h
  · have := hn k hk
    rw [List.getD_eq_getElem?_getD, List.getElem?_eq_getElem (by omega)] at this
    simpa using this
theorem pos_none {L : List (Int × Int)} {id : Int} (hn : ∀ k, k < L.length → (L.getD k (0, 0)).1 ≠ id) : pos L id = L.length := by
  unfold pos
  rw [List.findIdx_eq_length]
  intro x hx
  obtain ⟨k, hk, rfl⟩ := List.getElem_of_mem hx
  have := hn k hk
  rw [List.getD_eq_getElem?_getD, List.getElem?_eq_getElem hk] at this
  simpa using this
theorem clo39 (a b id : Int) (q : Nat) (w : World) (hq : w.cell? ⟨q, 0, none⟩ = some (.int .i64 id)) :
    Calls Try.prog 40 #[.agg #[.int .i64 a, .int .i64 b], .pointer (some ⟨q, 0, none⟩)] w fun e w' => e = .returned (.bool (a == id)) ∧ Below w.heap.size w w' := by
  have hlt : q < w.heap.size := World.block_lt_of_cell? w ⟨q, 0, none⟩ hq
  go_enter Try.func40, Try.ntmps40
  go_wp2_with fail
  go_ret
  exact ⟨by simp, (Below.refl _ _).alloc (Nat.le_refl _) _⟩
structure FRel (L : List (Int × Int)) (id : Int) (n : Nat) (w : World) (iv : Value) (wr : World) : Prop where
  ex : ∃ j : Nat, j ≤ n ∧ iv = .int .i64 (j : Int) ∧ (∀ k, k < j → (L.getD k (0, 0)).1 ≠ id) ∧ Below w.heap.size w wr
theorem index_any (v : Value) (rb q : Nat) (id : Int) (L : List (Int × Int)) (w : World) (hr : RowV w v rb L) (hL : L.length ≤ 1000) (hq : w.cell? ⟨q, 0, none⟩ = some (.int .i64 id)) :
    Calls Try.prog 39 #[v, .func (.func 40) #[] #[.pointer (some ⟨q, 0, none⟩)]] w fun e w' => e = .returned (.int .i64 (posI L id)) ∧ Below w.heap.size w w' := by
  obtain ⟨A, c, rfl, hc⟩ := hr.slice
  obtain ⟨n, hn⟩ : ∃ n, L.length = n := ⟨_, rfl⟩
  have HR := Lib.hid hr
  have HN := Lib.hid hn
  have HL := Lib.hid hL
  have HQ := Lib.hid hq
  rw [hn] at HR hc ⊢
  clear hr hL hn hq
  go_enter Try.func39, Try.ntmps39
  go_wp2_with fail
  go_loopw [8] (fun i wr => FRel L id n w i wr) (fun i _ => 1001 - (intOf i).toNat)
  case atStart => exact ⟨⟨0, Nat.zero_le _, rfl, fun k hk => absurd hk (by omega), Below.refl _ _⟩⟩
  case round =>
    obtain ⟨⟨j, hj, rfl, hne, hb⟩⟩ := hrel
    have HB := Lib.hid hb
    have HNE := Lib.hid hne
    clear hb hne
    by_cases hlt : j < n
    · obtain ⟨⟨c', hv⟩, d0, d1, hrl⟩ := RowV.cells (v := .slice A n c) (w := w) (rb := rb) (L := L) HR.out j (by rw [HN.out]; exact hlt)
      rw [HN.out] at hv
      injection hv with hv _ hcc
      subst hv hcc
      have d0 := cell_later HB.out d0
      have d1 := cell_later HB.out d1
      have hjI : (j : Int) < (n : Int) := by omega
      have hj1 : Hid (j < 1000) := by have := HL.out; have := HN.out; unfold Hid; omega
      have hj2 : (j : Int) < 1000 := by have := hj1.out; omega
      obtain ⟨a, ha⟩ : ∃ a, Hid ((L.getD j (0, 0)).1 = a) := ⟨_, rfl⟩
      obtain ⟨b, hb'⟩ : ∃ b, Hid ((L.getD j (0, 0)).2 = b) := ⟨_, rfl⟩
      rw [ha.out] at d0
      rw [hb'.out] at d1
      have CL := Lib.hid (clo39 a b id q wr (cell_later HB.out HQ.out))
      by_cases he : a = id
      · have he' : (a == id) = true := by rw [beq_iff_eq]; exact he
        rw [he'] at CL
        have HP : Hid (posI L id = (j : Int)) := by
          have h1 := pos_hit (L := L) (id := id) (j := j) (by rw [HN.out]; exact hlt) HNE.out (by rw [ha.out]; exact he)
          unfold Hid posI
          rw [h1, HN.out, if_pos hlt]
        clear he he' hj
        go_wp2_with fail
        refine CL.out.mono ?_
        rintro e w1 ⟨rfl, b1⟩
        clear CL
        go_wp2_with fail
        go_ret
        exact ⟨by rw [HP.out]; rfl, HB.out.trans (b1.mono HB.out.size)⟩
      · have he' : (a == id) = false := by rw [beq_eq_false_iff_ne]; exact he
        rw [he'] at CL
        have HN2 : Hid (∀ k, k < j + 1 → (L.getD k (0, 0)).1 ≠ id) := fun k hk => by
          by_cases e : k = j
          · subst e; rw [ha.out]; exact he
          · exact HNE.out k (by omega)
        clear he he' hj
        go_wp2_with fail
        refine CL.out.mono ?_
        rintro e w1 ⟨rfl, b1⟩
        have HB2 := Lib.hid (HB.out.trans (b1.mono HB.out.size))
        clear CL b1
        go_wp2_with fail
        go_roundw
        case rel => first | exact ⟨⟨j + 1, hlt, by go_num, HN2.out, HB2.out⟩⟩ | ((repeat apply Exists.intro); exact ⟨⟨⟨j + 1, hlt, by go_num, HN2.out, HB2.out⟩⟩, rfl⟩)
        case measure => have := hj1.out; simp [intOf]; omega
    · have hjI : ¬ (j : Int) < (n : Int) := by omega
      have HP : Hid (posI L id = -1) := by
        have h1 := pos_none (L := L) (id := id) (fun k hk => HNE.out k (by rw [HN.out] at hk; omega))
        unfold Hid posI
        rw [if_neg (by rw [h1]; omega)]
      clear hj
      go_wp2_with fail
      go_ret
      exact ⟨by rw [HP.out]; rfl, HB.out⟩
def cnt (L : List (Int × Int)) (at_ : Int) : Nat := L.countP (fun x => decide (at_ ≤ x.2))
def Srt (L : List (Int × Int)) : Prop := L.Pairwise (fun a b => b.2 ≤ a.2)
theorem cnt_le (L : List (Int × Int)) (a : Int) : cnt L a ≤ L.length := List.countP_le_length
theorem srt_le {L : List (Int × Int)} (h : Srt L) {i j : Nat} (hij : i ≤ j) (hj : j < L.length) : (L.getD j (0, 0)).2 ≤ (L.getD i (0, 0)).2 := by
  rw [List.getD_eq_getElem?_getD, List.getD_eq_getElem?_getD, List.getElem?_eq_getElem hj, List.getElem?_eq_getElem (by omega)]
  rcases Nat.lt_or_ge i j with h1 | h1
  · exact List.pairwise_iff_getElem.1 h i j (by omega) hj h1
  · obtain rfl : i = j := by omega
    exact Int.le_refl _
theorem cnt_of {L : List (Int × Int)} {a : Int} {i : Nat} (hi : i ≤ L.length) (h1 : ∀ k, k < i → a ≤ (L.getD k (0, 0)).2) (h2 : ∀ k, i ≤ k → k < L.length → (L.getD k (0, 0)).2 < a) : cnt L a = i := by
  unfold cnt
  rw [← List.take_append_drop i L, List.countP_append]
  have e1 : (L.take i).countP (fun x => decide (a ≤ x.2)) = i := by
    rw [List.countP_eq_length.2 ?_, List.length_take]; omega
    intro x hx
    obtain ⟨k, hk, rfl⟩ := List.getElem_of_mem hx
    rw [List.length_take] at hk
    have := h1 k (by omega)
    rw [List.getD_eq_getElem?_getD, List.getElem?_eq_getElem (by omega)] at this
    simpa using this
  have e2 : (L.drop i).countP (fun x => decide (a ≤ x.2)) = 0 := by
    rw [List.countP_eq_zero]
    intro x hx
    obtain ⟨k, hk, rfl⟩ := List.getElem_of_mem hx
    rw [List.length_drop] at hk
    have := h2 (i + k) (by omega) (by omega)
    rw [List.getD_eq_getElem?_getD, List.getElem?_eq_getElem (by omega)] at this
    simpa using this
  omega
theorem clo37 (g rb qt qa i : Nat) (at_ : Int) (L : List (Int × Int)) (w : World) (h : TV w g rb L) (hi : i < L.length) (hL : L.length ≤ 1000) (hqt : w.cell? ⟨qt, 0, none⟩ = some (.pointer (some ⟨g, 0, none⟩))) (hqa : w.cell? ⟨qa, 0, none⟩ = some (.int .i64 at_)) :
    Calls Try.prog 44 #[.int .i64 (i : Int), .pointer (some ⟨qt, 0, none⟩), .pointer (some ⟨qa, 0, none⟩)] w fun e w' => e = .returned (.bool (decide ((L.getD i (0, 0)).2 < at_))) ∧ Below w.heap.size w w' := by
  obtain ⟨v, hc, hr, _⟩ := h.ex
  obtain ⟨⟨c, rfl⟩, _, d1, _⟩ := hr.cells i hi
  obtain ⟨n, hn⟩ : ∃ n, L.length = n := ⟨_, rfl⟩
  obtain ⟨y, hy⟩ : ∃ y, (L.getD i (0, 0)).2 = y := ⟨_, rfl⟩
  rw [hn] at hc hi
  rw [hy] at d1 ⊢
  have hI : (i : Int) < (n : Int) := by omega
  clear h hr hn hy hL hi
  go_enter Try.func44, Try.ntmps44
  go_wp2_with fail
  refine wp_region_held_drew (S := (fun w' => Below w.heap.size w w' ∧ w'.cell? ⟨qt, 0, none⟩ = some (.pointer (some ⟨g, 0, none⟩)) ∧ w'.cell? ⟨g, 3, none⟩ = some (.slice (some ⟨rb, 0, none⟩) n c) ∧ w'.cell? ⟨rb, i * 2 + 1, none⟩ = some (.int .i64 y) ∧ w'.cell? ⟨qa, 0, none⟩ = some (.int .i64 at_))) (by kernel_rfl) ?_ (fun hHeld => ?_)
  · exact ⟨(Below.refl _ _).drew, hqt, hc, d1, hqa⟩
  refine takeD (i := 0) (d := some 5) (v := ?_) _ rfl rfl (by kernel_rfl) (by kernel_rfl) (by kernel_rfl) (fun _ _ _ h => h) (by rfl) ?_ (by assumption) ?_
  rotate_left
  · (intro w hSw; (try dsimp only at hSw); go_simp) <;> with_reducible rfl
  try simp only [Act.put, List.setIfInBounds_toArray, List.set_cons_zero, List.set_cons_succ]
  refine takeD (i := 1) (d := some 6) (v := ?_) _ rfl rfl (by kernel_rfl) (by kernel_rfl) (by kernel_rfl) (fun _ _ _ h => h) (by rfl) ?_ (by assumption) ?_
  rotate_left
  · (intro w hSw; (try dsimp only at hSw); go_simp) <;> with_reducible rfl
  try simp only [Act.put, List.setIfInBounds_toArray, List.set_cons_zero, List.set_cons_succ]
  refine takeD (i := 2) (d := some 7) (v := ?_) _ rfl rfl (by kernel_rfl) (by kernel_rfl) (by kernel_rfl) (fun _ _ _ h => h) (by rfl) ?_ (by assumption) ?_
  rotate_left
  · (intro w hSw; (try dsimp only at hSw); go_simp) <;> with_reducible rfl
  try simp only [Act.put, List.setIfInBounds_toArray, List.set_cons_zero, List.set_cons_succ]
  refine takeD (i := 3) (d := some 8) (v := ?_) _ rfl rfl (by kernel_rfl) (by kernel_rfl) (by kernel_rfl) (fun _ _ _ h => h) (by rfl) ?_ (by assumption) ?_
  rotate_left
  · (intro w hSw; (try dsimp only at hSw); go_simp) <;> with_reducible rfl
  try simp only [Act.put, List.setIfInBounds_toArray, List.set_cons_zero, List.set_cons_succ]
  refine takeD (i := 4) (d := some 9) (v := ?_) _ rfl rfl (by kernel_rfl) (by kernel_rfl) (by kernel_rfl) (fun _ _ _ h => h) (by rfl) ?_ (by assumption) ?_
  rotate_left
  · (intro w hSw; (try dsimp only at hSw); go_simp) <;> with_reducible rfl
  try simp only [Act.put, List.setIfInBounds_toArray, List.set_cons_zero, List.set_cons_succ]
  refine takeD (i := 5) (d := some 10) (v := ?_) _ rfl rfl (by kernel_rfl) (by kernel_rfl) (by kernel_rfl) (fun _ _ _ h => h) (by rfl) ?_ (by assumption) ?_
  rotate_left
  · (intro w hSw; (try dsimp only at hSw); go_simp) <;> with_reducible rfl
  try simp only [Act.put, List.setIfInBounds_toArray, List.set_cons_zero, List.set_cons_succ]
  refine takeD (i := 6) (d := some 11) (v := ?_) _ rfl rfl (by kernel_rfl) (by kernel_rfl) (by kernel_rfl) (fun _ _ _ h => h) (by rfl) ?_ (by assumption) ?_
  rotate_left
  · (intro w hSw; (try dsimp only at hSw); go_simp) <;> with_reducible rfl
  try simp only [Act.put, List.setIfInBounds_toArray, List.set_cons_zero, List.set_cons_succ]
  refine takeD (i := 7) (d := some 12) (v := ?_) _ rfl rfl (by kernel_rfl) (by kernel_rfl) (by kernel_rfl) (fun _ _ _ h => h) (by rfl) ?_ (by assumption) ?_
  rotate_left
  · (intro w hSw; (try dsimp only at hSw); go_simp) <;> with_reducible rfl
  try simp only [Act.put, List.setIfInBounds_toArray, List.set_cons_zero, List.set_cons_succ]
  refine takeD (i := 8) (d := some 13) (v := ?_) _ rfl rfl (by kernel_rfl) (by kernel_rfl) (by kernel_rfl) (fun _ _ _ h => h) (by rfl) ?_ (by assumption) ?_
  rotate_left
  · (intro w hSw; (try dsimp only at hSw); go_simp) <;> with_reducible rfl
  try simp only [Act.put, List.setIfInBounds_toArray, List.set_cons_zero, List.set_cons_succ]
  refine takeD (i := 9) (d := some 14) (v := ?_) _ rfl rfl (by kernel_rfl) (by kernel_rfl) (by kernel_rfl) (fun _ _ _ h => h) (by rfl) ?_ (by assumption) ?_
  rotate_left
  · (intro w hSw; (try dsimp only at hSw); go_simp) <;> with_reducible rfl
  try simp only [Act.put, List.setIfInBounds_toArray, List.set_cons_zero, List.set_cons_succ]
  refine takeD (i := 10) (d := some 4) (v := ?_) _ rfl rfl (by kernel_rfl) (by kernel_rfl) (by kernel_rfl) (fun _ _ _ h => h) (by rfl) ?_ (by assumption) ?_
  rotate_left
  · (intro w hSw; (try dsimp only at hSw); go_simp) <;> with_reducible rfl
  try simp only [Act.put, List.setIfInBounds_toArray, List.set_cons_zero, List.set_cons_succ]
  refine wpAnyH_done (by kernel_rfl) ?_ _
  have BF := hHeld.1
  clear hHeld
  go_wp2_with fail
  go_ret
  exact ⟨by simp, BF⟩
theorem half_of (i j : Nat) (h : i < j) (hj : j ≤ 1000) : ∃ m : Nat, i ≤ m ∧ m < j ∧ (i + j) / 2 = m := ⟨(i + j) / 2, by omega, by omega, rfl⟩
structure SRel (L : List (Int × Int)) (at_ : Int) (n : Nat) (w : World) (iv jv : Value) (wr : World) : Prop where
  ex : ∃ i j : Nat, i ≤ j ∧ j ≤ n ∧ iv = .int .i64 (i : Int) ∧ jv = .int .i64 (j : Int) ∧ (∀ k, k < i → at_ ≤ (L.getD k (0, 0)).2) ∧ (∀ k, j ≤ k → k < n → (L.getD k (0, 0)).2 < at_) ∧ Below w.heap.size w wr
theorem search_any (g rb qt qa : Nat) (at_ : Int) (L : List (Int × Int)) (w : World) (h : TV w g rb L) (hs : Srt L) (hL : L.length ≤ 1000) (hqt : w.cell? ⟨qt, 0, none⟩ = some (.pointer (some ⟨g, 0, none⟩))) (hqa : w.cell? ⟨qa, 0, none⟩ = some (.int .i64 at_)) :
    Calls Try.prog 43 #[.int .i64 (L.length : Int), .func (.func 44) #[] #[.pointer (some ⟨qt, 0, none⟩), .pointer (some ⟨qa, 0, none⟩)]] w fun e w' => e = .returned (.int .i64 (cnt L at_ : Int)) ∧ Below w.heap.size w w' := by
  have HT := Lib.hid h
  have HS := Lib.hid hs
  have HQT := Lib.hid hqt
  have HQA := Lib.hid hqa
  have HL := Lib.hid hL
  obtain ⟨n, hn⟩ : ∃ n, L.length = n := ⟨_, rfl⟩
  have HN := Lib.hid hn
  rw [hn]
  clear h hs hqt hqa hL hn
  go_enter Try.func43, Try.ntmps43
  go_wp2_with fail
  go_loopw [5, 6] (fun i j wr => SRel L at_ n w i j wr) (fun i j _ => (intOf j).toNat - (intOf i).toNat)
  case atStart => exact ⟨⟨0, n, Nat.zero_le _, Nat.le_refl _, rfl, rfl, fun k hk => absurd hk (by omega), fun k h1 h2 => absurd h1 (by omega), Below.refl _ _⟩⟩
  case round =>
    obtain ⟨⟨i, j, hij, hj, rfl, rfl, h1, h2, hb⟩⟩ := hrel
    have H1 := Lib.hid h1
    have H2 := Lib.hid h2
    have HB := Lib.hid hb
    clear h1 h2 hb
    by_cases hlt : i < j
    · have hI : (i : Int) < (j : Int) := by omega
      have hj1000 : (j : Int) ≤ 1000 := by have := HL.out; have := HN.out; omega
      obtain ⟨m, m1, m2, hm⟩ := half_of i j hlt (by omega)
      have ws : IntKind.i64.wrap ((i : Int) + (j : Int)) = (i : Int) + (j : Int) := by rw [IntKind.wrap_i64]; omega
      have wu : IntKind.u64.wrap ((i : Int) + (j : Int)) = (i : Int) + (j : Int) := by rw [IntKind.wrap_u64]; omega
      have hmI : ((i : Int) + (j : Int)) / 2 = (m : Int) := by omega
      have wm : IntKind.i64.wrap (m : Int) = (m : Int) := by rw [IntKind.wrap_i64]; omega
      have wm1 : IntKind.i64.wrap ((m : Int) + 1) = (m : Int) + 1 := by rw [IntKind.wrap_i64]; omega
      have CL := clo37 g rb qt qa m at_ L wr (HT.out.below HB.out) (by have := HN.out; omega) HL.out (cell_later HB.out HQT.out) (cell_later HB.out HQA.out)
      have HMJ : Hid (i ≤ m ∧ m < j ∧ j ≤ n) := ⟨m1, m2, hj⟩
      clear hm m1 m2 hj hij hlt
      by_cases hd : (L.getD m (0, 0)).2 < at_
      · rw [decide_eq_true hd] at CL
        have HC := Lib.hid CL
        have HD := Lib.hid hd
        clear CL hd
        go_wp2_with fail
        refine HC.out.mono ?_
        rintro e w1 ⟨rfl, b1⟩
        have HB2 := Lib.hid (HB.out.trans (b1.mono HB.out.size))
        have H22 : Hid (∀ k, m ≤ k → k < n → (L.getD k (0, 0)).2 < at_) := fun k k1 k2 => by
          have := srt_le HS.out k1 (by rw [HN.out]; exact k2)
          have := HD.out; omega
        clear HC b1
        go_wp2_with fail
        go_roundw
        case rel => first | exact ⟨⟨i, m, HMJ.out.1, by have := HMJ.out; omega, rfl, rfl, H1.out, H22.out, HB2.out⟩⟩ | ((repeat apply Exists.intro); exact ⟨⟨⟨i, m, HMJ.out.1, by have := HMJ.out; omega, rfl, rfl, H1.out, H22.out, HB2.out⟩⟩, rfl⟩)
        case measure => have := HMJ.out; simp [intOf]; omega
      · rw [decide_eq_false hd] at CL
        have HC := Lib.hid CL
        have HD := Lib.hid hd
        clear CL hd
        go_wp2_with fail
        refine HC.out.mono ?_
        rintro e w1 ⟨rfl, b1⟩
        have HB2 := Lib.hid (HB.out.trans (b1.mono HB.out.size))
        have H12 : Hid (∀ k, k < m + 1 → at_ ≤ (L.getD k (0, 0)).2) := fun k k1 => by
          have := srt_le (i := k) (j := m) HS.out (by omega) (by rw [HN.out]; have := HMJ.out; omega)
          have := HD.out; omega
        clear HC b1
        go_wp2_with fail
        go_roundw
        case rel => first | exact ⟨⟨m + 1, j, by have := HMJ.out; omega, HMJ.out.2.2, by go_num, rfl, H12.out, H2.out, HB2.out⟩⟩ | ((repeat apply Exists.intro); exact ⟨⟨⟨m + 1, j, by have := HMJ.out; omega, HMJ.out.2.2, by go_num, rfl, H12.out, H2.out, HB2.out⟩⟩, rfl⟩)
        case measure => have := HMJ.out; simp [intOf]; omega
    · obtain rfl : i = j := by omega
      have hI : ¬ (i : Int) < (i : Int) := by omega
      have HP : Hid (cnt L at_ = i) := cnt_of (by rw [HN.out]; exact hj) H1.out (fun k k1 k2 => H2.out k k1 (by rw [← HN.out]; exact k2))
      clear hij hj hlt
      go_wp2_with fail
      go_ret
      exact ⟨by rw [HP.out]; rfl, HB.out⟩
set_option maxRecDepth 100000 in
set_option maxHeartbeats 1000000 in
theorem find_any (g rb : Nat) (L : List (Int × Int)) (id : Int) (w : World) (h : TV w g rb L) (hL : L.length ≤ 1000) :
    Calls Try.prog 31 #[.pointer (some ⟨g, 0, none⟩), .int .i64 id] w fun e w' => e = .returned (.int .i64 (posI L id)) ∧ Below w.heap.size w w' := by
  obtain ⟨v, a, b, c⟩ := h.ex
  obtain ⟨w1, hw1⟩ : ∃ w1, w.alloc (.cells #[.int .i64 id] 3) = w1 := ⟨_, rfl⟩
  have hb1 : Below w.heap.size w w1 := by rw [← hw1]; exact (Below.refl _ _).alloc (Nat.le_refl _) _
  have p1 : w1.cell? ⟨w.heap.size, 0, none⟩ = some (.int .i64 id) := by rw [← hw1]; simp
  have b1 : RowV w1 v rb L := by
    rcases c with c | c
    · exact b.keep (.inl c)
    · exact b.keep (.inr (hb1.block rb c))
  have a1 : w1.cell? ⟨g, 3, none⟩ = some v := cell_later hb1 a
  have IX := Lib.hid (index_any v rb w.heap.size id L w1 b1 hL p1)
  obtain ⟨A, n, hv⟩ := slice_form b.own
  subst hv
  have HB := Lib.hid hb1
  clear a b c h hb1 p1 b1
  go_enter Try.func31, Try.ntmps31
  go_wp2_with fail
  refine IX.out.mono ?_
  rintro e w2 ⟨rfl, b2⟩
  have B2 : Hid (Below w.heap.size w w2) := HB.out.trans (b2.mono HB.out.size)
  clear b2
  go_wp2_with fail
  go_ret
  exact ⟨rfl, B2.out⟩
set_option maxRecDepth 100000 in
set_option maxHeartbeats 1000000 in
theorem behind_any (g rb : Nat) (L : List (Int × Int)) (p : Int) (w : World) (h : TV w g rb L) (hs : Srt L) (hL : L.length ≤ 1000) :
    Calls Try.prog 33 #[.pointer (some ⟨g, 0, none⟩), .int .i64 p] w fun e w' => e = .returned (.int .i64 (cnt L p : Int)) ∧ Below w.heap.size w w' := by
  obtain ⟨w1, hw1⟩ : ∃ w1, (w.alloc (.cells #[.pointer (some ⟨g, 0, none⟩)] 24)).alloc (.cells #[.int .i64 p] 3) = w1 := ⟨_, rfl⟩
  have hb1 : Below w.heap.size w w1 := by rw [← hw1]; exact ((Below.refl _ _).alloc (Nat.le_refl _) _).alloc (by simp) _
  have p1 : w1.cell? ⟨w.heap.size, 0, none⟩ = some (.pointer (some ⟨g, 0, none⟩)) := by rw [← hw1]; simp [World.cell?_alloc_past]
  have p2 : w1.cell? ⟨w.heap.size + 1, 0, none⟩ = some (.int .i64 p) := by rw [← hw1]; simp
  have SE := Lib.hid (search_any g rb w.heap.size (w.heap.size + 1) p L w1 (h.below hb1) hs hL p1 p2)
  obtain ⟨v, a, b, c⟩ := h.ex
  have a1 : w1.cell? ⟨g, 3, none⟩ = some v := cell_later hb1 a
  obtain ⟨A, n, hv⟩ := slice_form b.own
  subst hv
  have HB := Lib.hid hb1
  obtain ⟨q, hq⟩ : ∃ q, L.length = q := ⟨_, rfl⟩
  rw [hq] at SE a1
  clear a b c h hb1 p2 hq
  go_enter Try.func33, Try.ntmps33
  go_wp2_with fail
  refine SE.out.mono ?_
  rintro e w2 ⟨rfl, b2⟩
  have B2 : Hid (Below w.heap.size w w2) := HB.out.trans (b2.mono HB.out.size)
  clear b2
  go_wp2_with fail
  go_ret
  exact ⟨rfl, B2.out⟩
end Go.Proofs.Ytobnhjkcbhajbaa.S
