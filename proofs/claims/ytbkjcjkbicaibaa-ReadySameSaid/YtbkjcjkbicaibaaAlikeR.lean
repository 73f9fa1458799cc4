/-
  Are a list and the reference's the same? Each statement bears its own conditions.
-/
import Derived.Test.YtbkjcjkbicaibaaDo
namespace Go.Proofs.Ytbkjcjkbicaibaa
open Go.RowKit
set_option linter.unusedVariables false
set_option linter.unusedSimpArgs false
theorem ln_add (X : Nat → List Int) {N : Nat} (hN : ln X 64 = N) : ∀ j, j ≤ 64 → (af X j).length + ln X (64 - j) = N := by
  intro j
  induction j with
  | zero => intro _; simp only [af, List.length_nil, Nat.zero_add, Nat.sub_zero]; exact hN
  | succ j ih =>
    intro hj
    have h := ih (by omega)
    rw [show 64 - j = (63 - j) + 1 by omega] at h
    simp only [ln] at h
    simp only [af, List.length_append]
    rw [show 64 - (j + 1) = 63 - j by omega]
    omega
theorem ln_end (X : Nat → List Int) {N : Nat} (hN : ln X 64 = N) : (allL X).length = N := by
  have h := ln_add X hN 64 (Nat.le_refl _)
  rw [Nat.sub_self, show ln X 0 = 0 from rfl, Nat.add_zero] at h
  exact h
theorem ln_fl (X : Nat → List Int) : ln X 64 = (flP X).length := by
  generalize hN : ln X 64 = N
  rw [fl_len, ln_end X hN]
theorem fl_at (X : Nat → List Int) {i : Nat} (h : i < (flP X).length) : ((flP X).getD i (0, 0)).1 = (allL X).getD i 0 := by
  rw [← fl_fst, List.getD_eq_getElem?_getD, List.getD_eq_getElem?_getD, List.getElem?_map, List.getElem?_eq_getElem h]; rfl
theorem fl_pr {X : Nat → List Int} (hk : Okk X) {i : Nat} (h : i < (flP X).length) {p : Int} {ok : Bool} (hp : Pr X ((flP X).getD i (0, 0)).1 p ok) : ok = true ∧ p = ((flP X).getD i (0, 0)).2 := by
  have hm : (flP X).getD i (0, 0) ∈ flP X := by rw [List.getD_eq_getElem?_getD, List.getElem?_eq_getElem h]; exact List.getElem_mem _
  obtain ⟨q, h1, h2, h3⟩ := fl_mem.1 hm
  rcases hp with ⟨q', a, b, rfl, rfl⟩ | ⟨a, _⟩
  · exact ⟨rfl, by rw [h2, hk.dj q q' h1 a _ h3 b]⟩
  · exact absurd h3 (a q h1)
theorem fl_pk {X : Nat → List Int} {x : Int} {ok : Bool} (hk : Okk X) (h : Pk X x ok) : (flP X = [] ∧ x = 0 ∧ ok = false) ∨ (0 < (flP X).length ∧ x = ((flP X).getD 0 (0, 0)).1 ∧ ok = true) := by
  rcases h with ⟨p, L, ht, hl, rfl⟩ | ⟨he, rfl, rfl⟩
  · rcases take_ref hk (.inl ⟨p, L, ht, hl, rfl, rfl⟩) with ⟨_, h, _⟩ | ⟨y, h1, h2, _⟩
    · cases h
    · refine .inr ⟨by rw [h1]; simp, ?_, rfl⟩
      rw [h1]; exact h2.symm
  · rcases take_ref hk (.inr ⟨he, rfl, rfl, rfl⟩) with ⟨h, _⟩ | ⟨y, _, _, h, _⟩
    · exact .inl ⟨h, rfl, rfl⟩
    · cases h
structure AkRel (n : Nat) (w : World) (v : Value) (wr : World) : Prop where
  ex : ∃ i : Nat, i ≤ n ∧ v = .int .i64 (i : Int) ∧ Below w.heap.size w wr
set_option maxRecDepth 100000 in
set_option maxHeartbeats 8000000 in
theorem alike_any (g : Nat) (rb : Nat → Nat) (X : Nat → List Int) (A : Option Addr) (n c : Nat) (w0 w : World) (h : DS w0 w g rb X A n c (flP X)) (hn : n ≤ 900) :
    Calls Try.prog 11 #[.pointer (some ⟨g, 0, none⟩), .slice A n c] w fun e w' => e = .returned (.bool true) ∧ Below w.heap.size w w' := by
  have HN : Hid (n ≤ 900) := hn
  have SM : Hid (Sm X) := fun p hp => by
    have := line_le X hp
    have := h.len
    omega
  have H1 := Lib.hid h
  have LNN : Hid (ln X 64 = n) := by unfold Hid; rw [ln_fl]; exact h.len
  have LAL : Hid ((allL X).length = n) := by unfold Hid; rw [← fl_len]; exact h.len
  clear h hn
  go_enter Try.func11, Try.ntmps11
  go_wp2_with fail
  refine (all_any g rb X w H1.out.lf SM.out).mono ?_
  rintro e w2 ⟨A1, n1, c1, rfl, o1, b1⟩
  have hn1 : n1 = n := by
    have h1 := o1.1
    rw [C_len, LAL.out] at h1; omega
  subst hn1
  have H2 := Lib.hid (H1.out.below b1)
  have R2 := Lib.hid (Reads.of_own o1)
  have B2 := Lib.hid b1
  clear o1 b1 H1
  go_wp2_with fail
  refine (len_any g rb X w2 H2.out.lf SM.out).mono ?_
  rintro e w3 ⟨rfl, hw⟩
  have hw := hw.symm
  subst hw
  rw [LNN.out]
  go_wp2_with fail
  --L
  go_loopw [6] (fun v wr => AkRel n1 w2 v wr) (fun v => fun _ => 1001 - (intOf v).toNat)
  case atStart => exact ⟨⟨0, Nat.zero_le _, rfl, Below.refl _ _⟩⟩
  case round =>
    obtain ⟨⟨i, hi, rfl, hb⟩⟩ := hrel
    have H3 := Lib.hid (H2.out.below hb)
    have R3 := Lib.hid (R2.out.below hb)
    have B3 := Lib.hid hb
    have HI := Lib.hid hi
    clear hb hi
    by_cases hlt : i < n1
    · obtain ⟨b, off, rfl, _, hl, hcc⟩ := place_p H3.out.rd (by omega)
      obtain ⟨e0, e1⟩ := hcc i hlt
      obtain ⟨bb, oo, rfl, _, _, hcc2⟩ := place_i R3.out (by omega)
      have f0 := cell_later (Below.refl _ _) (hcc2 i hlt)
      have hfa := fl_at X (i := i) (by rw [hl]; exact hlt)
      have HPR : Hid (∀ p ok, Pr X ((flP X).getD i (0, 0)).1 p ok → ok = true ∧ p = ((flP X).getD i (0, 0)).2) := fun p ok hp => fl_pr H3.out.ok (by rw [hl]; exact hlt) hp
      rw [← hfa] at f0
      obtain ⟨⟨x, q⟩, hy⟩ : ∃ y, (flP X).getD i (0, 0) = y := ⟨_, rfl⟩
      rw [hy] at e0 e1 f0 HPR
      have hiI : (i : Int) < (n1 : Int) := by omega
      have hi2 : (i : Int) < 1000 := by have := HN.out; omega
      have HX : Hid (i < n1) := hlt
      have E0 : Hid (wr.cell? ⟨b, off + i * 2, none⟩ = some (.int .i64 x) ∧ wr.cell? ⟨b, off + i * 2 + 1, none⟩ = some (.int .i64 q) ∧ wr.cell? ⟨bb, oo + i, none⟩ = some (.int .i64 x)) := ⟨e0, e1, f0⟩
      clear hcc hcc2 hfa hy hl hlt
      go_wp2_with fail
      refine (prio_any g rb X x wr H3.out.lf SM.out).mono ?_
      rintro e w4 ⟨pz, okz, rfl, hpr, hw⟩
      have hw := hw.symm
      subst hw
      obtain ⟨rfl, rfl⟩ := HPR.out _ _ hpr
      clear hpr HPR
      have hxx : (x != x) = false := by simp
      have hqq : (pz != pz) = false := by simp
      go_wp2_with fail
      --R
      refine wp_region_held_drew (S := (fun w' => Below wr.heap.size wr w' ∧ w'.cell? ⟨b, off + i * 2, none⟩ = some (.int .i64 x) ∧ w'.cell? ⟨b, off + i * 2 + 1, none⟩ = some (.int .i64 pz) ∧ w'.cell? ⟨bb, oo + i, none⟩ = some (.int .i64 x))) (by kernel_rfl) ?_ (fun hHeld => ?_)
      · exact ⟨(Below.refl _ _).drew, e0, e1, f0⟩
      refine takeD (i := 0) (d := some 41) (v := ?_) _ rfl rfl (by kernel_rfl) (by kernel_rfl) (by kernel_rfl) (fun _ _ _ h => h) (by rfl) ?_ (by assumption) ?_
      rotate_left
      · (intro w hSw; (try dsimp only at hSw); go_simp) <;> with_reducible rfl
      try simp only [Act.put, List.setIfInBounds_toArray, List.set_cons_zero, List.set_cons_succ]
      refine takeD (i := 1) (d := some 42) (v := ?_) _ rfl rfl (by kernel_rfl) (by kernel_rfl) (by kernel_rfl) (fun _ _ _ h => h) (by rfl) ?_ (by assumption) ?_
      rotate_left
      · (intro w hSw; (try dsimp only at hSw); go_simp) <;> with_reducible rfl
      try simp only [Act.put, List.setIfInBounds_toArray, List.set_cons_zero, List.set_cons_succ]
      refine takeD (i := 2) (d := some 43) (v := ?_) _ rfl rfl (by kernel_rfl) (by kernel_rfl) (by kernel_rfl) (fun _ _ _ h => h) (by rfl) ?_ (by assumption) ?_
      rotate_left
      · (intro w hSw; (try dsimp only at hSw); go_simp) <;> with_reducible rfl
      try simp only [Act.put, List.setIfInBounds_toArray, List.set_cons_zero, List.set_cons_succ]
      refine takeD (i := 3) (d := some 44) (v := ?_) _ rfl rfl (by kernel_rfl) (by kernel_rfl) (by kernel_rfl) (fun _ _ _ h => h) (by rfl) ?_ (by assumption) ?_
      rotate_left
      · (intro w hSw; (try dsimp only at hSw); go_simp) <;> with_reducible rfl
      try simp only [Act.put, List.setIfInBounds_toArray, List.set_cons_zero, List.set_cons_succ]
      refine takeD (i := 4) (d := some 45) (v := ?_) _ rfl rfl (by kernel_rfl) (by kernel_rfl) (by kernel_rfl) (fun _ _ _ h => h) (by rfl) ?_ (by assumption) ?_
      rotate_left
      · (intro w hSw; (try dsimp only at hSw); go_simp) <;> with_reducible rfl
      try simp only [Act.put, List.setIfInBounds_toArray, List.set_cons_zero, List.set_cons_succ]
      refine takeD (i := 5) (d := some 46) (v := ?_) _ rfl rfl (by kernel_rfl) (by kernel_rfl) (by kernel_rfl) (fun _ _ _ h => h) (by rfl) ?_ (by assumption) ?_
      rotate_left
      · (intro w hSw; (try dsimp only at hSw); go_simp) <;> with_reducible rfl
      try simp only [Act.put, List.setIfInBounds_toArray, List.set_cons_zero, List.set_cons_succ]
      refine takeD (i := 6) (d := some 47) (v := ?_) _ rfl rfl (by kernel_rfl) (by kernel_rfl) (by kernel_rfl) (fun _ _ _ h => h) (by rfl) ?_ (by assumption) ?_
      rotate_left
      · (intro w hSw; (try dsimp only at hSw); go_simp) <;> with_reducible rfl
      try simp only [Act.put, List.setIfInBounds_toArray, List.set_cons_zero, List.set_cons_succ]
      refine takeD (i := 7) (d := some 48) (v := ?_) _ rfl rfl (by kernel_rfl) (by kernel_rfl) (by kernel_rfl) (fun _ _ _ h => h) (by rfl) ?_ (by assumption) ?_
      rotate_left
      · (intro w hSw; (try dsimp only at hSw); go_simp) <;> with_reducible rfl
      try simp only [Act.put, List.setIfInBounds_toArray, List.set_cons_zero, List.set_cons_succ]
      refine takeD (i := 8) (d := some 49) (v := ?_) _ rfl rfl (by kernel_rfl) (by kernel_rfl) (by kernel_rfl) (fun _ _ _ h => h) (by rfl) ?_ (by assumption) ?_
      rotate_left
      · (intro w hSw; (try dsimp only at hSw); go_simp) <;> with_reducible rfl
      try simp only [Act.put, List.setIfInBounds_toArray, List.set_cons_zero, List.set_cons_succ]
      refine takeD (i := 9) (d := some 50) (v := ?_) _ rfl rfl (by kernel_rfl) (by kernel_rfl) (by kernel_rfl) (fun _ _ _ h => h) (by rfl) ?_ (by assumption) ?_
      rotate_left
      · (intro w hSw; (try dsimp only at hSw); go_simp) <;> with_reducible rfl
      try simp only [Act.put, List.setIfInBounds_toArray, List.set_cons_zero, List.set_cons_succ]
      refine takeD (i := 10) (d := some 51) (v := ?_) _ rfl rfl (by kernel_rfl) (by kernel_rfl) (by kernel_rfl) (fun _ _ _ h => h) (by rfl) ?_ (by assumption) ?_
      rotate_left
      · (intro w hSw; (try dsimp only at hSw); go_simp) <;> with_reducible rfl
      try simp only [Act.put, List.setIfInBounds_toArray, List.set_cons_zero, List.set_cons_succ]
      refine takeD (i := 11) (d := some 52) (v := ?_) _ rfl rfl (by kernel_rfl) (by kernel_rfl) (by kernel_rfl) (fun _ _ _ h => h) (by rfl) ?_ (by assumption) ?_
      rotate_left
      · (intro w hSw; (try dsimp only at hSw); go_simp) <;> with_reducible rfl
      try simp only [Act.put, List.setIfInBounds_toArray, List.set_cons_zero, List.set_cons_succ]
      refine takeD (i := 12) (d := some 53) (v := ?_) _ rfl rfl (by kernel_rfl) (by kernel_rfl) (by kernel_rfl) (fun _ _ _ h => h) (by rfl) ?_ (by assumption) ?_
      rotate_left
      · (intro w hSw; (try dsimp only at hSw); go_simp) <;> with_reducible rfl
      try simp only [Act.put, List.setIfInBounds_toArray, List.set_cons_zero, List.set_cons_succ]
      refine takeD (i := 13) (d := some 54) (v := ?_) _ rfl rfl (by kernel_rfl) (by kernel_rfl) (by kernel_rfl) (fun _ _ _ h => h) (by rfl) ?_ (by assumption) ?_
      rotate_left
      · (intro w hSw; (try dsimp only at hSw); go_simp) <;> with_reducible rfl
      try simp only [Act.put, List.setIfInBounds_toArray, List.set_cons_zero, List.set_cons_succ]
      refine takeD (i := 14) (d := some 55) (v := ?_) _ rfl rfl (by kernel_rfl) (by kernel_rfl) (by kernel_rfl) (fun _ _ _ h => h) (by rfl) ?_ (by assumption) ?_
      rotate_left
      · (intro w hSw; (try dsimp only at hSw); go_simp) <;> with_reducible rfl
      try simp only [Act.put, List.setIfInBounds_toArray, List.set_cons_zero, List.set_cons_succ]
      refine takeD (i := 15) (d := some 56) (v := ?_) _ rfl rfl (by kernel_rfl) (by kernel_rfl) (by kernel_rfl) (fun _ _ _ h => h) (by rfl) ?_ (by assumption) ?_
      rotate_left
      · (intro w hSw; (try dsimp only at hSw); go_simp) <;> with_reducible rfl
      try simp only [Act.put, List.setIfInBounds_toArray, List.set_cons_zero, List.set_cons_succ]
      refine takeD (i := 16) (d := some 57) (v := ?_) _ rfl rfl (by kernel_rfl) (by kernel_rfl) (by kernel_rfl) (fun _ _ _ h => h) (by rfl) ?_ (by assumption) ?_
      rotate_left
      · (intro w hSw; (try dsimp only at hSw); go_simp) <;> with_reducible rfl
      try simp only [Act.put, List.setIfInBounds_toArray, List.set_cons_zero, List.set_cons_succ]
      refine takeD (i := 17) (d := some 58) (v := ?_) _ rfl rfl (by kernel_rfl) (by kernel_rfl) (by kernel_rfl) (fun _ _ _ h => h) (by rfl) ?_ (by assumption) ?_
      rotate_left
      · (intro w hSw; (try dsimp only at hSw); go_simp) <;> with_reducible rfl
      try simp only [Act.put, List.setIfInBounds_toArray, List.set_cons_zero, List.set_cons_succ]
      refine takeD (i := 18) (d := some 59) (v := ?_) _ rfl rfl (by kernel_rfl) (by kernel_rfl) (by kernel_rfl) (fun _ _ _ h => h) (by rfl) ?_ (by assumption) ?_
      rotate_left
      · (intro w hSw; (try dsimp only at hSw); go_simp) <;> with_reducible rfl
      try simp only [Act.put, List.setIfInBounds_toArray, List.set_cons_zero, List.set_cons_succ]
      refine takeD (i := 19) (d := some 60) (v := ?_) _ rfl rfl (by kernel_rfl) (by kernel_rfl) (by kernel_rfl) (fun _ _ _ h => h) (by rfl) ?_ (by assumption) ?_
      rotate_left
      · (intro w hSw; (try dsimp only at hSw); go_simp) <;> with_reducible rfl
      try simp only [Act.put, List.setIfInBounds_toArray, List.set_cons_zero, List.set_cons_succ]
      refine takeD (i := 20) (d := some 61) (v := ?_) _ rfl rfl (by kernel_rfl) (by kernel_rfl) (by kernel_rfl) (fun _ _ _ h => h) (by rfl) ?_ (by assumption) ?_
      rotate_left
      · (intro w hSw; (try dsimp only at hSw); go_simp) <;> with_reducible rfl
      try simp only [Act.put, List.setIfInBounds_toArray, List.set_cons_zero, List.set_cons_succ]
      refine takeD (i := 21) (d := some 62) (v := ?_) _ rfl rfl (by kernel_rfl) (by kernel_rfl) (by kernel_rfl) (fun _ _ _ h => h) (by rfl) ?_ (by assumption) ?_
      rotate_left
      · (intro w hSw; (try dsimp only at hSw); go_simp) <;> with_reducible rfl
      try simp only [Act.put, List.setIfInBounds_toArray, List.set_cons_zero, List.set_cons_succ]
      refine takeD (i := 22) (d := some 63) (v := ?_) _ rfl rfl (by kernel_rfl) (by kernel_rfl) (by kernel_rfl) (fun _ _ _ h => h) (by rfl) ?_ (by assumption) ?_
      rotate_left
      · (intro w hSw; (try dsimp only at hSw); go_simp) <;> with_reducible rfl
      try simp only [Act.put, List.setIfInBounds_toArray, List.set_cons_zero, List.set_cons_succ]
      refine wpAnyH_done (by kernel_rfl) ?_ _
      have B4 := Lib.hid (B3.out.trans (hHeld.1.mono B3.out.size))
      clear hHeld e0 e1 f0
      go_wp2_with fail
      go_roundw
      case rel =>
        have Q : AkRel n1 w2 (.int .i64 ((i : Int) + 1)) wr.drew := ⟨⟨i + 1, HX.out, by go_num, B4.out⟩⟩
        first | exact Q | ((repeat apply Exists.intro); exact ⟨Q, rfl⟩)
      case measure => have := HX.out; have := HN.out; simp [intOf]; omega
    · have hiI : ¬ (i : Int) < (n1 : Int) := by omega
      clear hlt
      go_wp2_with fail
      refine (peek_any g rb X wr H3.out.lf SM.out).mono ?_
      rintro e w4 ⟨x, ok, rfl, hpk, b4⟩
      have H4 := Lib.hid (H3.out.below b4)
      have B4 := Lib.hid (B3.out.trans (b4.mono B3.out.size))
      clear b4
      rcases fl_pk H4.out.ok hpk with ⟨hnil, rfl, rfl⟩ | ⟨hpos, hx, rfl⟩
      · have hn0 : n1 = 0 := by have := H4.out.len; rw [hnil] at this; simpa using this.symm
        subst hn0
        clear hpk hnil
        go_wp2_with fail
        --E0
        go_ret
        exact ⟨rfl, B2.out.trans (B4.out.mono B2.out.size)⟩
      · have hn3 : 0 < n1 := by have := H4.out.len; omega
        have hn4 : (0 : Int) < (n1 : Int) := by omega
        obtain ⟨b, off, rfl, _, _, hcc⟩ := place_p H4.out.rd hn3
        obtain ⟨e0, _⟩ := hcc 0 hn3
        rw [← hx] at e0
        have e0 : w4.cell? ⟨b, off, none⟩ = some (.int .i64 x) := by simpa using e0
        have hxx : (x == x) = true := by simp
        clear hcc hx hpk hpos
        go_wp2_with fail
        --E1
        go_ret
        exact ⟨rfl, B2.out.trans (B4.out.mono B2.out.size)⟩
end Go.Proofs.Ytbkjcjkbicaibaa
