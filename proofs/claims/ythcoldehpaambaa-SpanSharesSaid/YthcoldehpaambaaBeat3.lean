/-
  More contracts of the functions on beats: Next, before, Busy. Each states its own conditions.
-/
import Derived.Test.YthcoldehpaambaaBeat2
namespace Go.Proofs.Ythcoldehpaambaa
open Go.RowKit
set_option linter.unusedSimpArgs false

theorem int_ret {k : IntKind} {a b : Int} (h : a = b) : Ending.returned (.int k a) = .returned (.int k b) := by rw [h]

/-- Where a beat's next span begins. -/
def nextT (F E t : Int) : Int := if t ≤ F then F else if (t - F) % E = 0 then t else t - (t - F) % E + E
theorem nextT_lo {F E t : Int} (h : t ≤ F) : nextT F E t = F := by unfold nextT; rw [if_pos h]
theorem nextT_on {F E t : Int} (h : ¬ t ≤ F) (h' : (t - F) % E = 0) : nextT F E t = t := by unfold nextT; rw [if_neg h, if_pos h']
theorem nextT_hi {F E t : Int} (h : ¬ t ≤ F) (h' : ¬ (t - F) % E = 0) : nextT F E t = t - (t - F) % E + E := by unfold nextT; rw [if_neg h, if_neg h']

theorem next_any (F E L t : Int) (w : World) (h : Ok F E L) (h1 : t ≤ 4611686018427387904) :
    Calls Try.prog 26 #[.agg #[.int .i64 F, .int .i64 E, .int .i64 L], .int .i64 t] w fun e w' => e = .returned (.int .i64 (nextT F E t)) ∧ Below w.heap.size w w' := by
  have hk := h
  obtain ⟨a1, a2, a3, a4, a5, a6⟩ := hk
  have m1 : 0 ≤ (t - F) % E := Int.emod_nonneg _ (by omega)
  have m2 : (t - F) % E < E := Int.emod_lt_of_pos _ (by omega)
  by_cases c1 : t ≤ F
  · have H := Lib.hid (nextT_lo (E := E) c1)
    go_enter Try.func26, Try.ntmps26
    go_wp2_with (go_at_call 29; refine (valid_ok F E L _ h).mono ?_; rintro e w1 ⟨rfl, hb⟩; have k0 := cell_later hb (a := ⟨w.heap.size, 0, none⟩) (v := .int .i64 F) (by simp); have k1 := cell_later hb (a := ⟨w.heap.size, 1, none⟩) (v := .int .i64 E) (by simp); have k2 := cell_later hb (a := ⟨w.heap.size, 2, none⟩) (v := .int .i64 L) (by simp))
    go_ret
    exact ⟨int_ret H.out.symm, ((Below.refl _ _).alloc (Nat.le_refl _) _).trans (hb.mono (by simp))⟩
  · by_cases c2 : (t - F) % E = 0
    · have H := Lib.hid (nextT_on c1 c2)
      have c3 : ((t - F) % E == 0) = true := by simp [c2]
      clear c2
      go_enter Try.func26, Try.ntmps26
      go_wp2_with (go_at_call 29; refine (valid_ok F E L _ h).mono ?_; rintro e w1 ⟨rfl, hb⟩; have k0 := cell_later hb (a := ⟨w.heap.size, 0, none⟩) (v := .int .i64 F) (by simp); have k1 := cell_later hb (a := ⟨w.heap.size, 1, none⟩) (v := .int .i64 E) (by simp); have k2 := cell_later hb (a := ⟨w.heap.size, 2, none⟩) (v := .int .i64 L) (by simp))
      go_ret
      exact ⟨int_ret H.out.symm, ((Below.refl _ _).alloc (Nat.le_refl _) _).trans (hb.mono (by simp))⟩
    · have H := Lib.hid (nextT_hi c1 c2)
      have c3 : ((t - F) % E == 0) = false := by simp [c2]
      clear c2
      go_enter Try.func26, Try.ntmps26
      go_wp2_with (go_at_call 29; refine (valid_ok F E L _ h).mono ?_; rintro e w1 ⟨rfl, hb⟩; have k0 := cell_later hb (a := ⟨w.heap.size, 0, none⟩) (v := .int .i64 F) (by simp); have k1 := cell_later hb (a := ⟨w.heap.size, 1, none⟩) (v := .int .i64 E) (by simp); have k2 := cell_later hb (a := ⟨w.heap.size, 2, none⟩) (v := .int .i64 L) (by simp))
      go_ret
      exact ⟨int_ret H.out.symm, ((Below.refl _ _).alloc (Nat.le_refl _) _).trans (hb.mono (by simp))⟩

/-- How many ticks below t are of a beat. -/
def beforeT (F E L t : Int) : Int := if t ≤ F then 0 else (t - F) / E * L + min ((t - F) % E) L

theorem quo_bd {p E L : Int} (hp : 0 ≤ p) (hE : 1 ≤ E) (hL : 0 ≤ L) (hLE : L ≤ E) : 0 ≤ p / E * L ∧ p / E * L + p % E ≤ p := by
  have q0 : 0 ≤ p / E := Int.ediv_nonneg hp (by omega)
  have e : E * (p / E) + p % E = p := Int.mul_ediv_add_emod p E
  have k : p / E * L ≤ p / E * E := Int.mul_le_mul_of_nonneg_left hLE q0
  rw [Int.mul_comm E] at e
  exact ⟨Int.mul_nonneg q0 hL, by omega⟩

theorem beforeT_bd {F E L : Int} (t : Int) (h : Ok F E L) : 0 ≤ beforeT F E L t ∧ (F ≤ t → beforeT F E L t ≤ t - F) ∧ (t ≤ F → beforeT F E L t = 0) := by
  obtain ⟨a1, a2, a3, a4, a5, a6⟩ := h
  have m1 : 0 ≤ (t - F) % E := Int.emod_nonneg _ (by omega)
  have m2 : (t - F) % E < E := Int.emod_lt_of_pos _ (by omega)
  unfold beforeT
  split
  · omega
  · have := quo_bd (p := t - F) (E := E) (L := L) (by omega) a3 (by omega) a6
    omega

theorem before_any (F E L t : Int) (w : World) (h : Ok F E L) (h1 : t ≤ 4611686018427387904) :
    Calls Try.prog 30 #[.agg #[.int .i64 F, .int .i64 E, .int .i64 L], .int .i64 t] w fun e w' => e = .returned (.int .i64 (beforeT F E L t)) ∧ Below w.heap.size w w' := by
  have hk := h
  obtain ⟨a1, a2, a3, a4, a5, a6⟩ := hk
  have m1 : 0 ≤ (t - F) % E := Int.emod_nonneg _ (by omega)
  have m2 : (t - F) % E < E := Int.emod_lt_of_pos _ (by omega)
  by_cases c1 : t ≤ F
  · have H : Hid (beforeT F E L t = 0) := by unfold beforeT Hid; rw [if_pos c1]
    go_enter Try.func30, Try.ntmps30
    go_wp2
    go_ret
    exact ⟨int_ret H.out.symm, (Below.refl _ _).alloc (Nat.le_refl _) _⟩
  · obtain ⟨q1, q2⟩ := quo_bd (p := t - F) (E := E) (L := L) (by omega) a3 (by omega) a6
    by_cases c2 : (t - F) % E ≤ L
    · have H : Hid (beforeT F E L t = (t - F) / E * L + (t - F) % E) := by unfold beforeT Hid; rw [if_neg c1, Int.min_eq_left c2]
      have hE : ¬ E = 0 := by omega
      have d1 : (t - F).tdiv E = (t - F) / E := Int.tdiv_eq_ediv_of_nonneg (by omega)
      have d2 : (t - F).tmod E = (t - F) % E := tmod_pos (by omega)
      have q0 : 0 ≤ (t - F) / E := Int.ediv_nonneg (by omega) (by omega)
      have q00 : (t - F) / E ≤ t - F := Int.ediv_le_self _ (by omega)
      have v1 : IntKind.i64.wrap ((t - F) / E) = (t - F) / E := wrap_in (by omega) (by omega)
      have v2 : IntKind.i64.wrap ((t - F) / E * L) = (t - F) / E * L := wrap_in (by omega) (by omega)
      have v3 : IntKind.i64.wrap ((t - F) / E * L + (t - F) % E) = (t - F) / E * L + (t - F) % E := wrap_in (by omega) (by omega)
      have c3 : ¬ L < (t - F) % E := by omega
      go_enter Try.func30, Try.ntmps30
      go_wp2
      refine wp_region_held_drew (S := (fun w' => Below w.heap.size w w' ∧ w'.cell? ⟨w.heap.size, 0, none⟩ = some (.int .i64 F) ∧ w'.cell? ⟨w.heap.size, 1, none⟩ = some (.int .i64 E) ∧ w'.cell? ⟨w.heap.size, 2, none⟩ = some (.int .i64 L))) (by kernel_rfl) ?_ (fun hHeld => ?_)
      · exact ⟨((Below.refl _ _).alloc (Nat.le_refl _) _).drew, by simp, by simp, by simp⟩
      refine takeD (i := 0) (d := some 14) (v := ?_) _ rfl rfl (by kernel_rfl) (by kernel_rfl) (by kernel_rfl) (fun _ _ _ h => h) (by rfl) ?_ (by assumption) ?_
      rotate_left
      · (intro w hSw; (try dsimp only at hSw); go_simp) <;> with_reducible rfl
      try simp only [Act.put, List.setIfInBounds_toArray, List.set_cons_zero, List.set_cons_succ]
      refine takeD (i := 1) (d := some 15) (v := ?_) _ rfl rfl (by kernel_rfl) (by kernel_rfl) (by kernel_rfl) (fun _ _ _ h => h) (by rfl) ?_ (by assumption) ?_
      rotate_left
      · (intro w hSw; (try dsimp only at hSw); go_simp) <;> with_reducible rfl
      try simp only [Act.put, List.setIfInBounds_toArray, List.set_cons_zero, List.set_cons_succ]
      refine takeD (i := 2) (d := some 16) (v := ?_) _ rfl rfl (by kernel_rfl) (by kernel_rfl) (by kernel_rfl) (fun _ _ _ h => h) (by rfl) ?_ (by assumption) ?_
      rotate_left
      · (intro w hSw; (try dsimp only at hSw); go_simp) <;> with_reducible rfl
      try simp only [Act.put, List.setIfInBounds_toArray, List.set_cons_zero, List.set_cons_succ]
      refine takeD (i := 3) (d := some 17) (v := ?_) _ rfl rfl (by kernel_rfl) (by kernel_rfl) (by kernel_rfl) (fun _ _ _ h => h) (by rfl) ?_ (by assumption) ?_
      rotate_left
      · (intro w hSw; (try dsimp only at hSw); go_simp) <;> with_reducible rfl
      try simp only [Act.put, List.setIfInBounds_toArray, List.set_cons_zero, List.set_cons_succ]
      refine takeD (i := 4) (d := some 18) (v := ?_) _ rfl rfl (by kernel_rfl) (by kernel_rfl) (by kernel_rfl) (fun _ _ _ h => h) (by rfl) ?_ (by assumption) ?_
      rotate_left
      · (intro w hSw; (try dsimp only at hSw); go_simp) <;> with_reducible rfl
      try simp only [Act.put, List.setIfInBounds_toArray, List.set_cons_zero, List.set_cons_succ]
      refine takeD (i := 5) (d := some 19) (v := ?_) _ rfl rfl (by kernel_rfl) (by kernel_rfl) (by kernel_rfl) (fun _ _ _ h => h) (by rfl) ?_ (by assumption) ?_
      rotate_left
      · (intro w hSw; (try dsimp only at hSw); go_simp) <;> with_reducible rfl
      try simp only [Act.put, List.setIfInBounds_toArray, List.set_cons_zero, List.set_cons_succ]
      refine takeD (i := 6) (d := some 20) (v := ?_) _ rfl rfl (by kernel_rfl) (by kernel_rfl) (by kernel_rfl) (fun _ _ _ h => h) (by rfl) ?_ (by assumption) ?_
      rotate_left
      · (intro w hSw; (try dsimp only at hSw); go_simp) <;> with_reducible rfl
      try simp only [Act.put, List.setIfInBounds_toArray, List.set_cons_zero, List.set_cons_succ]
      refine takeD (i := 7) (d := some 21) (v := ?_) _ rfl rfl (by kernel_rfl) (by kernel_rfl) (by kernel_rfl) (fun _ _ _ h => h) (by rfl) ?_ (by assumption) ?_
      rotate_left
      · (intro w hSw; (try dsimp only at hSw); go_simp) <;> with_reducible rfl
      try simp only [Act.put, List.setIfInBounds_toArray, List.set_cons_zero, List.set_cons_succ]
      refine takeD (i := 8) (d := some 22) (v := ?_) _ rfl rfl (by kernel_rfl) (by kernel_rfl) (by kernel_rfl) (fun _ _ _ h => h) (by rfl) ?_ (by assumption) ?_
      rotate_left
      · (intro w hSw; (try dsimp only at hSw); go_simp) <;> with_reducible rfl
      try simp only [Act.put, List.setIfInBounds_toArray, List.set_cons_zero, List.set_cons_succ]
      refine takeD (i := 9) (d := some 23) (v := ?_) _ rfl rfl (by kernel_rfl) (by kernel_rfl) (by kernel_rfl) (fun _ _ _ h => h) (by rfl) ?_ (by assumption) ?_
      rotate_left
      · (intro w hSw; (try dsimp only at hSw); go_simp) <;> with_reducible rfl
      try simp only [Act.put, List.setIfInBounds_toArray, List.set_cons_zero, List.set_cons_succ]
      refine takeD (i := 10) (d := some 24) (v := ?_) _ rfl rfl (by kernel_rfl) (by kernel_rfl) (by kernel_rfl) (fun _ _ _ h => h) (by rfl) ?_ (by assumption) ?_
      rotate_left
      · (intro w hSw; (try dsimp only at hSw); go_simp) <;> with_reducible rfl
      try simp only [Act.put, List.setIfInBounds_toArray, List.set_cons_zero, List.set_cons_succ]
      refine takeD (i := 11) (d := some 25) (v := ?_) _ rfl rfl (by kernel_rfl) (by kernel_rfl) (by kernel_rfl) (fun _ _ _ h => h) (by rfl) ?_ (by assumption) ?_
      rotate_left
      · (intro w hSw; (try dsimp only at hSw); go_simp) <;> with_reducible rfl
      try simp only [Act.put, List.setIfInBounds_toArray, List.set_cons_zero, List.set_cons_succ]
      refine takeD (i := 12) (d := some 26) (v := ?_) _ rfl rfl (by kernel_rfl) (by kernel_rfl) (by kernel_rfl) (fun _ _ _ h => h) (by rfl) ?_ (by assumption) ?_
      rotate_left
      · (intro w hSw; (try dsimp only at hSw); go_simp) <;> with_reducible rfl
      try simp only [Act.put, List.setIfInBounds_toArray, List.set_cons_zero, List.set_cons_succ]
      refine takeD (i := 13) (d := some 27) (v := ?_) _ rfl rfl (by kernel_rfl) (by kernel_rfl) (by kernel_rfl) (fun _ _ _ h => h) (by rfl) ?_ (by assumption) ?_
      rotate_left
      · (intro w hSw; (try dsimp only at hSw); go_simp) <;> with_reducible rfl
      try simp only [Act.put, List.setIfInBounds_toArray, List.set_cons_zero, List.set_cons_succ]
      refine takeD (i := 14) (d := some 28) (v := ?_) _ rfl rfl (by kernel_rfl) (by kernel_rfl) (by kernel_rfl) (fun _ _ _ h => h) (by rfl) ?_ (by assumption) ?_
      rotate_left
      · (intro w hSw; (try dsimp only at hSw); go_simp) <;> with_reducible rfl
      try simp only [Act.put, List.setIfInBounds_toArray, List.set_cons_zero, List.set_cons_succ]
      refine takeD (i := 15) (d := some 4) (v := ?_) _ rfl rfl (by kernel_rfl) (by kernel_rfl) (by kernel_rfl) (fun _ _ _ h => h) (by rfl) ?_ (by assumption) ?_
      rotate_left
      · (intro w hSw; (try dsimp only at hSw); go_simp) <;> with_reducible rfl
      try simp only [Act.put, List.setIfInBounds_toArray, List.set_cons_zero, List.set_cons_succ]
      refine wpAnyH_done (by kernel_rfl) ?_ _
      go_wp2
      go_ret
      exact ⟨int_ret H.out.symm, hHeld.1⟩
    · have H : Hid (beforeT F E L t = (t - F) / E * L + L) := by unfold beforeT Hid; rw [if_neg c1, Int.min_eq_right (by omega)]
      have hE : ¬ E = 0 := by omega
      have d1 : (t - F).tdiv E = (t - F) / E := Int.tdiv_eq_ediv_of_nonneg (by omega)
      have d2 : (t - F).tmod E = (t - F) % E := tmod_pos (by omega)
      have q0 : 0 ≤ (t - F) / E := Int.ediv_nonneg (by omega) (by omega)
      have q00 : (t - F) / E ≤ t - F := Int.ediv_le_self _ (by omega)
      have v1 : IntKind.i64.wrap ((t - F) / E) = (t - F) / E := wrap_in (by omega) (by omega)
      have v2 : IntKind.i64.wrap ((t - F) / E * L) = (t - F) / E * L := wrap_in (by omega) (by omega)
      have v3 : IntKind.i64.wrap ((t - F) / E * L + L) = (t - F) / E * L + L := wrap_in (by omega) (by omega)
      have c3 : L < (t - F) % E := by omega
      go_enter Try.func30, Try.ntmps30
      go_wp2
      refine wp_region_held_drew (S := (fun w' => Below w.heap.size w w' ∧ w'.cell? ⟨w.heap.size, 0, none⟩ = some (.int .i64 F) ∧ w'.cell? ⟨w.heap.size, 1, none⟩ = some (.int .i64 E) ∧ w'.cell? ⟨w.heap.size, 2, none⟩ = some (.int .i64 L))) (by kernel_rfl) ?_ (fun hHeld => ?_)
      · exact ⟨((Below.refl _ _).alloc (Nat.le_refl _) _).drew, by simp, by simp, by simp⟩
      refine takeD (i := 0) (d := some 14) (v := ?_) _ rfl rfl (by kernel_rfl) (by kernel_rfl) (by kernel_rfl) (fun _ _ _ h => h) (by rfl) ?_ (by assumption) ?_
      rotate_left
      · (intro w hSw; (try dsimp only at hSw); go_simp) <;> with_reducible rfl
      try simp only [Act.put, List.setIfInBounds_toArray, List.set_cons_zero, List.set_cons_succ]
      refine takeD (i := 1) (d := some 15) (v := ?_) _ rfl rfl (by kernel_rfl) (by kernel_rfl) (by kernel_rfl) (fun _ _ _ h => h) (by rfl) ?_ (by assumption) ?_
      rotate_left
      · (intro w hSw; (try dsimp only at hSw); go_simp) <;> with_reducible rfl
      try simp only [Act.put, List.setIfInBounds_toArray, List.set_cons_zero, List.set_cons_succ]
      refine takeD (i := 2) (d := some 16) (v := ?_) _ rfl rfl (by kernel_rfl) (by kernel_rfl) (by kernel_rfl) (fun _ _ _ h => h) (by rfl) ?_ (by assumption) ?_
      rotate_left
      · (intro w hSw; (try dsimp only at hSw); go_simp) <;> with_reducible rfl
      try simp only [Act.put, List.setIfInBounds_toArray, List.set_cons_zero, List.set_cons_succ]
      refine takeD (i := 3) (d := some 17) (v := ?_) _ rfl rfl (by kernel_rfl) (by kernel_rfl) (by kernel_rfl) (fun _ _ _ h => h) (by rfl) ?_ (by assumption) ?_
      rotate_left
      · (intro w hSw; (try dsimp only at hSw); go_simp) <;> with_reducible rfl
      try simp only [Act.put, List.setIfInBounds_toArray, List.set_cons_zero, List.set_cons_succ]
      refine takeD (i := 4) (d := some 18) (v := ?_) _ rfl rfl (by kernel_rfl) (by kernel_rfl) (by kernel_rfl) (fun _ _ _ h => h) (by rfl) ?_ (by assumption) ?_
      rotate_left
      · (intro w hSw; (try dsimp only at hSw); go_simp) <;> with_reducible rfl
      try simp only [Act.put, List.setIfInBounds_toArray, List.set_cons_zero, List.set_cons_succ]
      refine takeD (i := 5) (d := some 19) (v := ?_) _ rfl rfl (by kernel_rfl) (by kernel_rfl) (by kernel_rfl) (fun _ _ _ h => h) (by rfl) ?_ (by assumption) ?_
      rotate_left
      · (intro w hSw; (try dsimp only at hSw); go_simp) <;> with_reducible rfl
      try simp only [Act.put, List.setIfInBounds_toArray, List.set_cons_zero, List.set_cons_succ]
      refine takeD (i := 6) (d := some 20) (v := ?_) _ rfl rfl (by kernel_rfl) (by kernel_rfl) (by kernel_rfl) (fun _ _ _ h => h) (by rfl) ?_ (by assumption) ?_
      rotate_left
      · (intro w hSw; (try dsimp only at hSw); go_simp) <;> with_reducible rfl
      try simp only [Act.put, List.setIfInBounds_toArray, List.set_cons_zero, List.set_cons_succ]
      refine takeD (i := 7) (d := some 21) (v := ?_) _ rfl rfl (by kernel_rfl) (by kernel_rfl) (by kernel_rfl) (fun _ _ _ h => h) (by rfl) ?_ (by assumption) ?_
      rotate_left
      · (intro w hSw; (try dsimp only at hSw); go_simp) <;> with_reducible rfl
      try simp only [Act.put, List.setIfInBounds_toArray, List.set_cons_zero, List.set_cons_succ]
      refine takeD (i := 8) (d := some 22) (v := ?_) _ rfl rfl (by kernel_rfl) (by kernel_rfl) (by kernel_rfl) (fun _ _ _ h => h) (by rfl) ?_ (by assumption) ?_
      rotate_left
      · (intro w hSw; (try dsimp only at hSw); go_simp) <;> with_reducible rfl
      try simp only [Act.put, List.setIfInBounds_toArray, List.set_cons_zero, List.set_cons_succ]
      refine takeD (i := 9) (d := some 23) (v := ?_) _ rfl rfl (by kernel_rfl) (by kernel_rfl) (by kernel_rfl) (fun _ _ _ h => h) (by rfl) ?_ (by assumption) ?_
      rotate_left
      · (intro w hSw; (try dsimp only at hSw); go_simp) <;> with_reducible rfl
      try simp only [Act.put, List.setIfInBounds_toArray, List.set_cons_zero, List.set_cons_succ]
      refine takeD (i := 10) (d := some 24) (v := ?_) _ rfl rfl (by kernel_rfl) (by kernel_rfl) (by kernel_rfl) (fun _ _ _ h => h) (by rfl) ?_ (by assumption) ?_
      rotate_left
      · (intro w hSw; (try dsimp only at hSw); go_simp) <;> with_reducible rfl
      try simp only [Act.put, List.setIfInBounds_toArray, List.set_cons_zero, List.set_cons_succ]
      refine takeD (i := 11) (d := some 25) (v := ?_) _ rfl rfl (by kernel_rfl) (by kernel_rfl) (by kernel_rfl) (fun _ _ _ h => h) (by rfl) ?_ (by assumption) ?_
      rotate_left
      · (intro w hSw; (try dsimp only at hSw); go_simp) <;> with_reducible rfl
      try simp only [Act.put, List.setIfInBounds_toArray, List.set_cons_zero, List.set_cons_succ]
      refine takeD (i := 12) (d := some 26) (v := ?_) _ rfl rfl (by kernel_rfl) (by kernel_rfl) (by kernel_rfl) (fun _ _ _ h => h) (by rfl) ?_ (by assumption) ?_
      rotate_left
      · (intro w hSw; (try dsimp only at hSw); go_simp) <;> with_reducible rfl
      try simp only [Act.put, List.setIfInBounds_toArray, List.set_cons_zero, List.set_cons_succ]
      refine takeD (i := 13) (d := some 27) (v := ?_) _ rfl rfl (by kernel_rfl) (by kernel_rfl) (by kernel_rfl) (fun _ _ _ h => h) (by rfl) ?_ (by assumption) ?_
      rotate_left
      · (intro w hSw; (try dsimp only at hSw); go_simp) <;> with_reducible rfl
      try simp only [Act.put, List.setIfInBounds_toArray, List.set_cons_zero, List.set_cons_succ]
      refine takeD (i := 14) (d := some 28) (v := ?_) _ rfl rfl (by kernel_rfl) (by kernel_rfl) (by kernel_rfl) (fun _ _ _ h => h) (by rfl) ?_ (by assumption) ?_
      rotate_left
      · (intro w hSw; (try dsimp only at hSw); go_simp) <;> with_reducible rfl
      try simp only [Act.put, List.setIfInBounds_toArray, List.set_cons_zero, List.set_cons_succ]
      refine takeD (i := 15) (d := some 4) (v := ?_) _ rfl rfl (by kernel_rfl) (by kernel_rfl) (by kernel_rfl) (fun _ _ _ h => h) (by rfl) ?_ (by assumption) ?_
      rotate_left
      · (intro w hSw; (try dsimp only at hSw); go_simp) <;> with_reducible rfl
      try simp only [Act.put, List.setIfInBounds_toArray, List.set_cons_zero, List.set_cons_succ]
      refine wpAnyH_done (by kernel_rfl) ?_ _
      go_wp2
      go_ret
      exact ⟨int_ret H.out.symm, hHeld.1⟩
end Go.Proofs.Ythcoldehpaambaa
