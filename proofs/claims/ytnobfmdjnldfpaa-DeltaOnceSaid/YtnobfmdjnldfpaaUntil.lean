/-
  The contract of until: how many timers are due. Each statement bears its own conditions.
-/
import Derived.Test.YtnobfmdjnldfpaaFind
namespace Go.Proofs.Ytnobfmdjnldfpaa
open Go.RowKit
set_option linter.unusedVariables false
set_option linter.unusedSimpArgs false
/-- How many are due at a tick. -/
def cnt (L : List (Int × Int)) (at_ : Int) : Nat := L.countP (fun x => decide (x.2 ≤ at_))
def Srt (L : List (Int × Int)) : Prop := L.Pairwise (fun a b => a.2 ≤ b.2)
theorem cnt_le (L : List (Int × Int)) (a : Int) : cnt L a ≤ L.length := List.countP_le_length
theorem srt_le {L : List (Int × Int)} (h : Srt L) {i j : Nat} (hij : i ≤ j) (hj : j < L.length) : (L.getD i (0, 0)).2 ≤ (L.getD j (0, 0)).2 := by
  rw [List.getD_eq_getElem?_getD, List.getD_eq_getElem?_getD, List.getElem?_eq_getElem hj, List.getElem?_eq_getElem (by omega)]
  rcases Nat.lt_or_ge i j with h1 | h1
  · exact List.pairwise_iff_getElem.1 h i j (by omega) hj h1
  · obtain rfl : i = j := by omega
    exact Int.le_refl _
theorem cnt_of {L : List (Int × Int)} {a : Int} {i : Nat} (hi : i ≤ L.length) (h1 : ∀ k, k < i → (L.getD k (0, 0)).2 ≤ a) (h2 : ∀ k, i ≤ k → k < L.length → a < (L.getD k (0, 0)).2) : cnt L a = i := by
  unfold cnt
  rw [← List.take_append_drop i L, List.countP_append]
  have e1 : (L.take i).countP (fun x => decide (x.2 ≤ a)) = i := by
    rw [List.countP_eq_length.2 ?_, List.length_take]; omega
    intro x hx
    obtain ⟨k, hk, rfl⟩ := List.getElem_of_mem hx
    rw [List.length_take] at hk
    have := h1 k (by omega)
    rw [List.getD_eq_getElem?_getD, List.getElem?_eq_getElem (by omega)] at this
    simpa using this
  have e2 : (L.drop i).countP (fun x => decide (x.2 ≤ a)) = 0 := by
    rw [List.countP_eq_zero]
    intro x hx
    obtain ⟨k, hk, rfl⟩ := List.getElem_of_mem hx
    rw [List.length_drop] at hk
    have := h2 (i + k) (by omega) (by omega)
    rw [List.getD_eq_getElem?_getD, List.getElem?_eq_getElem (by omega)] at this
    simpa using this
  omega
theorem clo37 (g rb qt qa i : Nat) (at_ : Int) (L : List (Int × Int)) (w : World) (h : TF w g rb L) (hi : i < L.length) (hL : L.length ≤ 1000) (hqt : w.cell? ⟨qt, 0, none⟩ = some (.pointer (some ⟨g, 0, none⟩))) (hqa : w.cell? ⟨qa, 0, none⟩ = some (.int .i64 at_)) :
    Calls Try.prog 37 #[.int .i64 (i : Int), .pointer (some ⟨qt, 0, none⟩), .pointer (some ⟨qa, 0, none⟩)] w fun e w' => e = .returned (.bool (decide (at_ < (L.getD i (0, 0)).2))) ∧ Below w.heap.size w w' := by
  obtain ⟨v, hc, hr, _⟩ := h.ex
  obtain ⟨⟨c, rfl⟩, _, d1, _⟩ := hr.cells i hi
  obtain ⟨n, hn⟩ : ∃ n, L.length = n := ⟨_, rfl⟩
  obtain ⟨y, hy⟩ : ∃ y, (L.getD i (0, 0)).2 = y := ⟨_, rfl⟩
  rw [hn] at hc hi
  rw [hy] at d1 ⊢
  have hI : (i : Int) < (n : Int) := by omega
  clear h hr hn hy hL hi
  go_enter Try.func37, Try.ntmps37
  go_wp2_with fail
  refine wp_region_held_drew (S := (fun w' => Below w.heap.size w w' ∧ w'.cell? ⟨qt, 0, none⟩ = some (.pointer (some ⟨g, 0, none⟩)) ∧ w'.cell? ⟨g, 0, none⟩ = some (.slice (some ⟨rb, 0, none⟩) n c) ∧ w'.cell? ⟨rb, i * 2 + 1, none⟩ = some (.int .i64 y) ∧ w'.cell? ⟨qa, 0, none⟩ = some (.int .i64 at_))) (by kernel_rfl) ?_ (fun hHeld => ?_)
  · exact ⟨(Below.refl _ _).drew, hqt, hc, d1, hqa⟩
  refine takeD (i := 0) (d := some 5) (v := ?_) _ rfl rfl (by kernel_rfl) (by kernel_rfl) (by kernel_rfl) (fun _ _ _ h => h) (by rfl) ?_ (by assumption) ?_
  rotate_left
  · (intro w hSw; (try dsimp only at hSw); go_simp) <;> with_reducible rfl
  try simp only [Act.put, List.setIfInBounds_toArray, List.set_cons_zero, List.set_cons_succ]
  refine takeD (i := 1) (d := some 6) (v := ?_) _ rfl rfl (by kernel_rfl) (by kernel_rfl) (by kernel_rfl) (fun _ _ _ h => h) (by rfl) ?_ (by assumption) ?_
  rotate_left
  · (intro w hSw; (try dsimp only at hSw); go_simp) <;> with_reducible rfl
  try simp only [Act.put, List.setIfInBounds_toArray, List.set_cons_zero, List.set_cons_succ]
  refine takeD (i := 2) (d := some 7) (v := ?_) _ rfl rfl (by kernel_rfl) (by kernel_rfl) (by kernel_rfl) (fun _ _ _ h => h) (by rfl) ?_ (by assumption) ?_
  rotate_left
  · (intro w hSw; (try dsimp only at hSw); go_simp) <;> with_reducible rfl
  try simp only [Act.put, List.setIfInBounds_toArray, List.set_cons_zero, List.set_cons_succ]
  refine takeD (i := 3) (d := some 8) (v := ?_) _ rfl rfl (by kernel_rfl) (by kernel_rfl) (by kernel_rfl) (fun _ _ _ h => h) (by rfl) ?_ (by assumption) ?_
  rotate_left
  · (intro w hSw; (try dsimp only at hSw); go_simp) <;> with_reducible rfl
  try simp only [Act.put, List.setIfInBounds_toArray, List.set_cons_zero, List.set_cons_succ]
  refine takeD (i := 4) (d := some 9) (v := ?_) _ rfl rfl (by kernel_rfl) (by kernel_rfl) (by kernel_rfl) (fun _ _ _ h => h) (by rfl) ?_ (by assumption) ?_
  rotate_left
  · (intro w hSw; (try dsimp only at hSw); go_simp) <;> with_reducible rfl
  try simp only [Act.put, List.setIfInBounds_toArray, List.set_cons_zero, List.set_cons_succ]
  refine takeD (i := 5) (d := some 10) (v := ?_) _ rfl rfl (by kernel_rfl) (by kernel_rfl) (by kernel_rfl) (fun _ _ _ h => h) (by rfl) ?_ (by assumption) ?_
  rotate_left
  · (intro w hSw; (try dsimp only at hSw); go_simp) <;> with_reducible rfl
  try simp only [Act.put, List.setIfInBounds_toArray, List.set_cons_zero, List.set_cons_succ]
  refine takeD (i := 6) (d := some 11) (v := ?_) _ rfl rfl (by kernel_rfl) (by kernel_rfl) (by kernel_rfl) (fun _ _ _ h => h) (by rfl) ?_ (by assumption) ?_
  rotate_left
  · (intro w hSw; (try dsimp only at hSw); go_simp) <;> with_reducible rfl
  try simp only [Act.put, List.setIfInBounds_toArray, List.set_cons_zero, List.set_cons_succ]
  refine takeD (i := 7) (d := some 12) (v := ?_) _ rfl rfl (by kernel_rfl) (by kernel_rfl) (by kernel_rfl) (fun _ _ _ h => h) (by rfl) ?_ (by assumption) ?_
  rotate_left
  · (intro w hSw; (try dsimp only at hSw); go_simp) <;> with_reducible rfl
  try simp only [Act.put, List.setIfInBounds_toArray, List.set_cons_zero, List.set_cons_succ]
  refine takeD (i := 8) (d := some 13) (v := ?_) _ rfl rfl (by kernel_rfl) (by kernel_rfl) (by kernel_rfl) (fun _ _ _ h => h) (by rfl) ?_ (by assumption) ?_
  rotate_left
  · (intro w hSw; (try dsimp only at hSw); go_simp) <;> with_reducible rfl
  try simp only [Act.put, List.setIfInBounds_toArray, List.set_cons_zero, List.set_cons_succ]
  refine takeD (i := 9) (d := some 14) (v := ?_) _ rfl rfl (by kernel_rfl) (by kernel_rfl) (by kernel_rfl) (fun _ _ _ h => h) (by rfl) ?_ (by assumption) ?_
  rotate_left
  · (intro w hSw; (try dsimp only at hSw); go_simp) <;> with_reducible rfl
  try simp only [Act.put, List.setIfInBounds_toArray, List.set_cons_zero, List.set_cons_succ]
  refine takeD (i := 10) (d := some 4) (v := ?_) _ rfl rfl (by kernel_rfl) (by kernel_rfl) (by kernel_rfl) (fun _ _ _ h => h) (by rfl) ?_ (by assumption) ?_
  rotate_left
  · (intro w hSw; (try dsimp only at hSw); go_simp) <;> with_reducible rfl
  try simp only [Act.put, List.setIfInBounds_toArray, List.set_cons_zero, List.set_cons_succ]
  refine wpAnyH_done (by kernel_rfl) ?_ _
  have BF := hHeld.1
  clear hHeld
  go_wp2_with fail
  go_ret
  exact ⟨by simp, BF⟩
theorem half_of (i j : Nat) (h : i < j) (hj : j ≤ 1000) : ∃ m : Nat, i ≤ m ∧ m < j ∧ (i + j) / 2 = m := ⟨(i + j) / 2, by omega, by omega, rfl⟩
structure SRel (L : List (Int × Int)) (at_ : Int) (n : Nat) (w : World) (iv jv : Value) (wr : World) : Prop where
  ex : ∃ i j : Nat, i ≤ j ∧ j ≤ n ∧ iv = .int .i64 (i : Int) ∧ jv = .int .i64 (j : Int) ∧ (∀ k, k < i → (L.getD k (0, 0)).2 ≤ at_) ∧ (∀ k, j ≤ k → k < n → at_ < (L.getD k (0, 0)).2) ∧ Below w.heap.size w wr
theorem search_any (g rb qt qa : Nat) (at_ : Int) (L : List (Int × Int)) (w : World) (h : TF w g rb L) (hs : Srt L) (hL : L.length ≤ 1000) (hqt : w.cell? ⟨qt, 0, none⟩ = some (.pointer (some ⟨g, 0, none⟩))) (hqa : w.cell? ⟨qa, 0, none⟩ = some (.int .i64 at_)) :
    Calls Try.prog 36 #[.int .i64 (L.length : Int), .func (.func 37) #[] #[.pointer (some ⟨qt, 0, none⟩), .pointer (some ⟨qa, 0, none⟩)]] w fun e w' => e = .returned (.int .i64 (cnt L at_ : Int)) ∧ Below w.heap.size w w' := by
  have HT := Lib.hid h
  have HS := Lib.hid hs
  have HQT := Lib.hid hqt
  have HQA := Lib.hid hqa
  have HL := Lib.hid hL
  obtain ⟨n, hn⟩ : ∃ n, L.length = n := ⟨_, rfl⟩
  have HN := Lib.hid hn
  rw [hn]
  clear h hs hqt hqa hL hn
  go_enter Try.func36, Try.ntmps36
  go_wp2_with fail
  go_loopw [5, 6] (fun i j wr => SRel L at_ n w i j wr) (fun i j _ => (intOf j).toNat - (intOf i).toNat)
  case atStart => exact ⟨⟨0, n, Nat.zero_le _, Nat.le_refl _, rfl, rfl, fun k hk => absurd hk (by omega), fun k h1 h2 => absurd h1 (by omega), Below.refl _ _⟩⟩
  case round =>
    obtain ⟨⟨i, j, hij, hj, rfl, rfl, h1, h2, hb⟩⟩ := hrel
    have H1 := Lib.hid h1
    have H2 := Lib.hid h2
    have HB := Lib.hid hb
    clear h1 h2 hb
    by_cases hlt : i < j
    · have hI : (i : Int) < (j : Int) := by omega
      have hj1000 : (j : Int) ≤ 1000 := by have := HL.out; have := HN.out; omega
      obtain ⟨m, m1, m2, hm⟩ := half_of i j hlt (by omega)
      have ws : IntKind.i64.wrap ((i : Int) + (j : Int)) = (i : Int) + (j : Int) := by rw [IntKind.wrap_i64]; omega
      have wu : IntKind.u64.wrap ((i : Int) + (j : Int)) = (i : Int) + (j : Int) := by rw [IntKind.wrap_u64]; omega
      have hmI : ((i : Int) + (j : Int)) / 2 = (m : Int) := by omega
      have wm : IntKind.i64.wrap (m : Int) = (m : Int) := by rw [IntKind.wrap_i64]; omega
      have wm1 : IntKind.i64.wrap ((m : Int) + 1) = (m : Int) + 1 := by rw [IntKind.wrap_i64]; omega
      have CL := clo37 g rb qt qa m at_ L wr (HT.out.below HB.out) (by have := HN.out; omega) HL.out (cell_later HB.out HQT.out) (cell_later HB.out HQA.out)
      have HMJ : Hid (i ≤ m ∧ m < j ∧ j ≤ n) := ⟨m1, m2, hj⟩
      clear hm m1 m2 hj hij hlt
      by_cases hd : at_ < (L.getD m (0, 0)).2
      · rw [decide_eq_true hd] at CL
        have HC := Lib.hid CL
        have HD := Lib.hid hd
        clear CL hd
        go_wp2_with fail
        refine HC.out.mono ?_
        rintro e w1 ⟨rfl, b1⟩
        have HB2 := Lib.hid (HB.out.trans (b1.mono HB.out.size))
        have H22 : Hid (∀ k, m ≤ k → k < n → at_ < (L.getD k (0, 0)).2) := fun k k1 k2 => by
          have := srt_le HS.out k1 (by rw [HN.out]; exact k2)
          have := HD.out; omega
        clear HC b1
        go_wp2_with fail
        go_roundw
        case rel => first | exact ⟨⟨i, m, HMJ.out.1, by have := HMJ.out; omega, rfl, rfl, H1.out, H22.out, HB2.out⟩⟩ | ((repeat apply Exists.intro); exact ⟨⟨⟨i, m, HMJ.out.1, by have := HMJ.out; omega, rfl, rfl, H1.out, H22.out, HB2.out⟩⟩, rfl⟩)
        case measure => have := HMJ.out; simp [intOf]; omega
      · rw [decide_eq_false hd] at CL
        have HC := Lib.hid CL
        have HD := Lib.hid hd
        clear CL hd
        go_wp2_with fail
        refine HC.out.mono ?_
        rintro e w1 ⟨rfl, b1⟩
        have HB2 := Lib.hid (HB.out.trans (b1.mono HB.out.size))
        have H12 : Hid (∀ k, k < m + 1 → (L.getD k (0, 0)).2 ≤ at_) := fun k k1 => by
          have := srt_le (i := k) (j := m) HS.out (by omega) (by rw [HN.out]; have := HMJ.out; omega)
          have := HD.out; omega
        clear HC b1
        go_wp2_with fail
        go_roundw
        case rel => first | exact ⟨⟨m + 1, j, by have := HMJ.out; omega, HMJ.out.2.2, by go_num, rfl, H12.out, H2.out, HB2.out⟩⟩ | ((repeat apply Exists.intro); exact ⟨⟨⟨m + 1, j, by have := HMJ.out; omega, HMJ.out.2.2, by go_num, rfl, H12.out, H2.out, HB2.out⟩⟩, rfl⟩)
        case measure => have := HMJ.out; simp [intOf]; omega
    · obtain rfl : i = j := by omega
      have hI : ¬ (i : Int) < (i : Int) := by omega
      have HP : Hid (cnt L at_ = i) := cnt_of (by rw [HN.out]; exact hj) H1.out (fun k k1 k2 => H2.out k k1 (by rw [← HN.out]; exact k2))
      clear hij hj hlt
      go_wp2_with fail
      go_ret
      exact ⟨by rw [HP.out]; rfl, HB.out⟩
theorem until_any (g rb : Nat) (at_ : Int) (L : List (Int × Int)) (w : World) (h : TF w g rb L) (hs : Srt L) (hL : L.length ≤ 1000) :
    Calls Try.prog 30 #[.pointer (some ⟨g, 0, none⟩), .int .i64 at_] w fun e w' => e = .returned (.int .i64 (cnt L at_ : Int)) ∧ Below w.heap.size w w' := by
  have hmf : ∀ (fn : Fn) (first cap : Array Value) (w : World), (Instr.makeFunc fn first cap).run Try.prog w = .ok (.func fn first cap) w := fun _ _ _ _ => rfl
  obtain ⟨v, hc, hr, _⟩ := h.ex
  obtain ⟨A, c, rfl, _⟩ := hr.slice
  have hlt := h.lt
  have BA : Below w.heap.size w ((w.alloc (.cells #[.pointer (some ⟨g, 0, none⟩)] 24)).alloc (.cells #[.int .i64 at_] 3)) := ((Below.refl _ _).alloc (Nat.le_refl _) _).alloc (by simp) _
  have SE := Lib.hid (search_any g rb w.heap.size (w.heap.size + 1) at_ L ((w.alloc (.cells #[.pointer (some ⟨g, 0, none⟩)] 24)).alloc (.cells #[.int .i64 at_] 3)) (h.below BA) hs hL (by rw [World.cell?_alloc_lt _ _ _ (by simp), World.cell?_alloc_new]; rfl) (by rw [show w.heap.size + 1 = (w.alloc (.cells #[.pointer (some ⟨g, 0, none⟩)] 24)).heap.size by simp, World.cell?_alloc_new]; rfl))
  obtain ⟨p, hp⟩ : ∃ p, cnt L at_ = p := ⟨_, rfl⟩
  obtain ⟨n, hn⟩ : ∃ n, L.length = n := ⟨_, rfl⟩
  rw [hp] at SE ⊢
  rw [hn] at SE hc
  have HBA := Lib.hid BA
  clear h hr hp hL BA hn hs
  go_enter Try.func30, Try.ntmps30
  go_wp2_with fail
  refine SE.out.mono ?_
  rintro e w1 ⟨rfl, b1⟩
  clear SE
  go_wp2_with fail
  go_ret
  exact ⟨rfl, HBA.out.trans (b1.mono HBA.out.size)⟩
end Go.Proofs.Ytnobfmdjnldfpaa
