/-
  The chapter's example of lists of ids; nil lists. Each statement bears its own conditions.
-/
import Derived.Test.YtbkjcjkbicaibaaAll
namespace Go.Proofs.Ytbkjcjkbicaibaa
open Go.RowKit
set_option linter.unusedVariables false
set_option linter.unusedSimpArgs false
theorem place_i {w : World} {B n : Nat} {A : Option Addr} {l : List Int} (h : Reads w B 1 A n (C l)) (hn : 0 < n) : ∃ b off, A = some ⟨b, off, none⟩ ∧ b < B ∧ l.length = n ∧ ∀ i, i < n → w.cell? ⟨b, off + i, none⟩ = some (.int .i64 (l.getD i 0)) := by
  obtain ⟨⟨b, off, spot⟩, hA, hb, hc⟩ := h.2 hn
  have hl : l.length = n := by have := h.1; simpa [C] using this
  have e0 := hc 0 (.int .i64 (l.getD 0 0)) (C_at l 0 (by omega))
  have hs : spot = none := by simpa [Addr.add] using World.cell?_spot e0
  subst hs
  refine ⟨b, off, hA, hb, hl, fun i hi => ?_⟩
  have := hc i (.int .i64 (l.getD i 0)) (C_at l i (by omega))
  rwa [Addr.add_lit] at this
theorem reads_newI (w : World) (vs : List Value) (e : TypeId) : Reads (w.alloc (.cells vs.toArray e)) (w.heap.size + 1) 1 (some ⟨w.heap.size, 0, none⟩) vs.length vs :=
  ⟨by simp, fun _ => ⟨_, rfl, by simp, fun j u hu => by rw [Addr.add_lit, World.cell?_alloc_new, Nat.zero_add]; simpa using hu⟩⟩
set_option maxRecDepth 100000 in
set_option maxHeartbeats 2000000 in
theorem is_any (g : Nat) (rb : Nat → Nat) (Ls : Nat → List Int) (A' : Option Addr) (m c' : Nat) (M : List Int) (w : World) (B' : Nat) (h : LF w g rb Ls) (hs : Sm Ls) (h' : Reads w B' 1 A' m (C M)) (hM : M.length = m) (hm : m ≤ 1000) (hB' : B' ≤ w.heap.size) :
    Calls Try.prog 29 #[.pointer (some ⟨g, 0, none⟩), .slice A' m c'] w fun e w' => e = .returned (.bool (decide (allL Ls = M))) ∧ Below w.heap.size w w' := by
  have AL := Lib.hid (all_any g rb Ls w h hs)
  have H' := Lib.hid h'
  have HNB := Lib.hid hB'
  have NE := Lib.hid hM
  have HL' : Hid (m ≤ 1000) := hm
  clear h hs h' hB' hM hm
  obtain ⟨D, hD⟩ : ∃ D, allL Ls = D := ⟨_, rfl⟩
  rw [hD]
  obtain ⟨eq, heq⟩ : ∃ eq, decide (D = M) = eq := ⟨_, rfl⟩
  have HE := Lib.hid heq
  rw [heq]
  have HDD := Lib.hid hD
  clear heq hD
  go_enter Try.func29, Try.ntmps29
  go_wp2_with fail
  refine AL.out.mono ?_
  rintro e w2 ⟨A, n, c, rfl, o2, b2⟩
  rw [HDD.out] at o2
  have R1 := Lib.hid (Reads.of_own o2)
  have R2 := Lib.hid (H'.out.below (b2.mono HNB.out))
  have ND : Hid (D.length = n) := by have := o2.1; rw [C_len] at this; unfold Hid; omega
  have B2 := Lib.hid b2
  clear o2 b2 AL
  by_cases hnm : n = m
  · subst hnm
    go_wp2_with fail
    go_loopw [6] (fun i wr => ERel D M n w2 i wr) (fun i _ => 1001 - (intOf i).toNat)
    case atStart => exact ⟨⟨0, Nat.zero_le _, rfl, rfl, Below.refl _ _⟩⟩
    case round =>
      obtain ⟨⟨j, hj, rfl, htk, hb⟩⟩ := hrel
      have HB := Lib.hid hb
      have HTK := Lib.hid htk
      clear hb htk
      by_cases hlt : j < n
      · obtain ⟨p, o, rfl, _, _, hc1⟩ := place_i R1.out (by omega)
        obtain ⟨p', o', rfl, _, _, hc2⟩ := place_i R2.out (by omega)
        have d0 := cell_later HB.out (hc1 j hlt)
        have e0 := cell_later HB.out (hc2 j hlt)
        clear hc1 hc2
        have hjI : (j : Int) < (n : Int) := by omega
        have hj2 : (j : Int) < 1000 := by have := HL'.out; omega
        have hj1 : Hid (j < 1000) := by unfold Hid; omega
        obtain ⟨a, ha⟩ : ∃ a, Hid (D.getD j 0 = a) := ⟨_, rfl⟩
        obtain ⟨a', ha'⟩ : ∃ a, Hid (M.getD j 0 = a) := ⟨_, rfl⟩
        rw [ha.out] at d0
        rw [ha'.out] at e0
        have HLT : Hid (j < n) := hlt
        by_cases he : a = a'
        · have HT2 : Hid (D.take (j + 1) = M.take (j + 1)) := by
            unfold Hid
            rw [take_getD (by rw [ND.out]; exact hlt), take_getD (by rw [NE.out]; exact hlt), HTK.out, ha.out, ha'.out, he]
          subst he
          clear hj hlt
          go_wp2_with fail
          refine wp_region_held_drew (S := (fun w' => Below wr.heap.size wr w' ∧ w'.cell? ⟨p, o + j, none⟩ = some (.int .i64 a) ∧ w'.cell? ⟨p', o' + j, none⟩ = some (.int .i64 a))) (by kernel_rfl) ?_ (fun hHeld => ?_)
          · exact ⟨(Below.refl _ _).drew, d0, e0⟩
          refine takeD (i := 0) (d := some 20) (v := ?_) _ rfl rfl (by kernel_rfl) (by kernel_rfl) (by kernel_rfl) (fun _ _ _ h => h) (by rfl) ?_ (by assumption) ?_
          rotate_left
          · (intro w hSw; (try dsimp only at hSw); go_simp) <;> with_reducible rfl
          try simp only [Act.put, List.setIfInBounds_toArray, List.set_cons_zero, List.set_cons_succ]
          refine takeD (i := 1) (d := some 21) (v := ?_) _ rfl rfl (by kernel_rfl) (by kernel_rfl) (by kernel_rfl) (fun _ _ _ h => h) (by rfl) ?_ (by assumption) ?_
          rotate_left
          · (intro w hSw; (try dsimp only at hSw); go_simp) <;> with_reducible rfl
          try simp only [Act.put, List.setIfInBounds_toArray, List.set_cons_zero, List.set_cons_succ]
          refine takeD (i := 2) (d := some 22) (v := ?_) _ rfl rfl (by kernel_rfl) (by kernel_rfl) (by kernel_rfl) (fun _ _ _ h => h) (by rfl) ?_ (by assumption) ?_
          rotate_left
          · (intro w hSw; (try dsimp only at hSw); go_simp) <;> with_reducible rfl
          try simp only [Act.put, List.setIfInBounds_toArray, List.set_cons_zero, List.set_cons_succ]
          refine takeD (i := 3) (d := some 23) (v := ?_) _ rfl rfl (by kernel_rfl) (by kernel_rfl) (by kernel_rfl) (fun _ _ _ h => h) (by rfl) ?_ (by assumption) ?_
          rotate_left
          · (intro w hSw; (try dsimp only at hSw); go_simp) <;> with_reducible rfl
          try simp only [Act.put, List.setIfInBounds_toArray, List.set_cons_zero, List.set_cons_succ]
          refine takeD (i := 4) (d := some 24) (v := ?_) _ rfl rfl (by kernel_rfl) (by kernel_rfl) (by kernel_rfl) (fun _ _ _ h => h) (by rfl) ?_ (by assumption) ?_
          rotate_left
          · (intro w hSw; (try dsimp only at hSw); go_simp) <;> with_reducible rfl
          try simp only [Act.put, List.setIfInBounds_toArray, List.set_cons_zero, List.set_cons_succ]
          refine takeD (i := 5) (d := some 25) (v := ?_) _ rfl rfl (by kernel_rfl) (by kernel_rfl) (by kernel_rfl) (fun _ _ _ h => h) (by rfl) ?_ (by assumption) ?_
          rotate_left
          · (intro w hSw; (try dsimp only at hSw); go_simp) <;> with_reducible rfl
          try simp only [Act.put, List.setIfInBounds_toArray, List.set_cons_zero, List.set_cons_succ]
          refine takeD (i := 6) (d := some 26) (v := ?_) _ rfl rfl (by kernel_rfl) (by kernel_rfl) (by kernel_rfl) (fun _ _ _ h => h) (by rfl) ?_ (by assumption) ?_
          rotate_left
          · (intro w hSw; (try dsimp only at hSw); go_simp) <;> with_reducible rfl
          try simp only [Act.put, List.setIfInBounds_toArray, List.set_cons_zero, List.set_cons_succ]
          refine takeD (i := 7) (d := some 27) (v := ?_) _ rfl rfl (by kernel_rfl) (by kernel_rfl) (by kernel_rfl) (fun _ _ _ h => h) (by rfl) ?_ (by assumption) ?_
          rotate_left
          · (intro w hSw; (try dsimp only at hSw); go_simp) <;> with_reducible rfl
          try simp only [Act.put, List.setIfInBounds_toArray, List.set_cons_zero, List.set_cons_succ]
          refine takeD (i := 8) (d := some 28) (v := ?_) _ rfl rfl (by kernel_rfl) (by kernel_rfl) (by kernel_rfl) (fun _ _ _ h => h) (by rfl) ?_ (by assumption) ?_
          rotate_left
          · (intro w hSw; (try dsimp only at hSw); go_simp) <;> with_reducible rfl
          try simp only [Act.put, List.setIfInBounds_toArray, List.set_cons_zero, List.set_cons_succ]
          refine wpAnyH_done (by kernel_rfl) ?_ _
          have HB2 := Lib.hid (HB.out.trans (hHeld.1.mono HB.out.size))
          clear hHeld
          go_wp2_with fail
          go_roundw
          case rel => first | exact ⟨⟨j + 1, HLT.out, by go_num, HT2.out, HB2.out⟩⟩ | ((repeat apply Exists.intro); exact ⟨⟨⟨j + 1, HLT.out, by go_num, HT2.out, HB2.out⟩⟩, rfl⟩)
          case measure => have := hj1.out; simp [intOf]; omega
        · have HF : Hid (eq = false) := by
            unfold Hid
            rw [← HE.out, decide_eq_false_iff_not]
            intro h
            apply he
            rw [← ha.out, ← ha'.out, h]
          have hne1 : (a == a') = false := by rw [beq_eq_false_iff_ne]; exact he
          have hne2 : (a != a') = true := by rw [bne_iff_ne]; exact he
          clear hj hlt
          go_wp2_with fail
          refine wp_region_held_drew (S := (fun w' => Below wr.heap.size wr w' ∧ w'.cell? ⟨p, o + j, none⟩ = some (.int .i64 a) ∧ w'.cell? ⟨p', o' + j, none⟩ = some (.int .i64 a'))) (by kernel_rfl) ?_ (fun hHeld => ?_)
          · exact ⟨(Below.refl _ _).drew, d0, e0⟩
          refine takeD (i := 0) (d := some 20) (v := ?_) _ rfl rfl (by kernel_rfl) (by kernel_rfl) (by kernel_rfl) (fun _ _ _ h => h) (by rfl) ?_ (by assumption) ?_
          rotate_left
          · (intro w hSw; (try dsimp only at hSw); go_simp) <;> with_reducible rfl
          try simp only [Act.put, List.setIfInBounds_toArray, List.set_cons_zero, List.set_cons_succ]
          refine takeD (i := 1) (d := some 21) (v := ?_) _ rfl rfl (by kernel_rfl) (by kernel_rfl) (by kernel_rfl) (fun _ _ _ h => h) (by rfl) ?_ (by assumption) ?_
          rotate_left
          · (intro w hSw; (try dsimp only at hSw); go_simp) <;> with_reducible rfl
          try simp only [Act.put, List.setIfInBounds_toArray, List.set_cons_zero, List.set_cons_succ]
          refine takeD (i := 2) (d := some 22) (v := ?_) _ rfl rfl (by kernel_rfl) (by kernel_rfl) (by kernel_rfl) (fun _ _ _ h => h) (by rfl) ?_ (by assumption) ?_
          rotate_left
          · (intro w hSw; (try dsimp only at hSw); go_simp) <;> with_reducible rfl
          try simp only [Act.put, List.setIfInBounds_toArray, List.set_cons_zero, List.set_cons_succ]
          refine takeD (i := 3) (d := some 23) (v := ?_) _ rfl rfl (by kernel_rfl) (by kernel_rfl) (by kernel_rfl) (fun _ _ _ h => h) (by rfl) ?_ (by assumption) ?_
          rotate_left
          · (intro w hSw; (try dsimp only at hSw); go_simp) <;> with_reducible rfl
          try simp only [Act.put, List.setIfInBounds_toArray, List.set_cons_zero, List.set_cons_succ]
          refine takeD (i := 4) (d := some 24) (v := ?_) _ rfl rfl (by kernel_rfl) (by kernel_rfl) (by kernel_rfl) (fun _ _ _ h => h) (by rfl) ?_ (by assumption) ?_
          rotate_left
          · (intro w hSw; (try dsimp only at hSw); go_simp) <;> with_reducible rfl
          try simp only [Act.put, List.setIfInBounds_toArray, List.set_cons_zero, List.set_cons_succ]
          refine takeD (i := 5) (d := some 25) (v := ?_) _ rfl rfl (by kernel_rfl) (by kernel_rfl) (by kernel_rfl) (fun _ _ _ h => h) (by rfl) ?_ (by assumption) ?_
          rotate_left
          · (intro w hSw; (try dsimp only at hSw); go_simp) <;> with_reducible rfl
          try simp only [Act.put, List.setIfInBounds_toArray, List.set_cons_zero, List.set_cons_succ]
          refine takeD (i := 6) (d := some 26) (v := ?_) _ rfl rfl (by kernel_rfl) (by kernel_rfl) (by kernel_rfl) (fun _ _ _ h => h) (by rfl) ?_ (by assumption) ?_
          rotate_left
          · (intro w hSw; (try dsimp only at hSw); go_simp) <;> with_reducible rfl
          try simp only [Act.put, List.setIfInBounds_toArray, List.set_cons_zero, List.set_cons_succ]
          refine takeD (i := 7) (d := some 27) (v := ?_) _ rfl rfl (by kernel_rfl) (by kernel_rfl) (by kernel_rfl) (fun _ _ _ h => h) (by rfl) ?_ (by assumption) ?_
          rotate_left
          · (intro w hSw; (try dsimp only at hSw); go_simp) <;> with_reducible rfl
          try simp only [Act.put, List.setIfInBounds_toArray, List.set_cons_zero, List.set_cons_succ]
          refine takeD (i := 8) (d := some 28) (v := ?_) _ rfl rfl (by kernel_rfl) (by kernel_rfl) (by kernel_rfl) (fun _ _ _ h => h) (by rfl) ?_ (by assumption) ?_
          rotate_left
          · (intro w hSw; (try dsimp only at hSw); go_simp) <;> with_reducible rfl
          try simp only [Act.put, List.setIfInBounds_toArray, List.set_cons_zero, List.set_cons_succ]
          refine wpAnyH_done (by kernel_rfl) ?_ _
          have HB2 := Lib.hid (HB.out.trans (hHeld.1.mono HB.out.size))
          clear hHeld
          go_wp2_with fail
          go_ret
          exact ⟨by rw [HF.out]; rfl, B2.out.trans (HB2.out.mono B2.out.size)⟩
      · have hjI : ¬ (j : Int) < (n : Int) := by omega
        have HF : Hid (eq = true) := by
          unfold Hid
          rw [← HE.out, decide_eq_true_iff]
          have := HTK.out
          rwa [List.take_of_length_le (by rw [ND.out]; omega), List.take_of_length_le (by rw [NE.out]; omega)] at this
        clear hj hlt
        go_wp2_with fail
        go_ret
        exact ⟨by rw [HF.out]; rfl, B2.out.trans (HB.out.mono B2.out.size)⟩
  · have hne : ((n : Int) == (m : Int)) = false := by rw [beq_eq_false_iff_ne]; omega
    have hne2 : ((n : Int) != (m : Int)) = true := by rw [bne_iff_ne]; omega
    have hf : Hid (eq = false) := by
      unfold Hid
      rw [← HE.out, decide_eq_false_iff_not]
      intro h
      have h1 := ND.out; have h2 := NE.out
      rw [h] at h1; omega
    go_wp2_with fail
    go_ret
    exact ⟨by rw [hf.out]; rfl, B2.out⟩
def k0 : Nat → List Int := fun _ => []
def k1 : Nat → List Int := putL k0 7 3
def k2 : Nat → List Int := putL k1 8 5
def k3 : Nat → List Int := putL k2 9 5
def k4 : Nat → List Int := frontL k3 6 5
def k5 : Nat → List Int := upd (upd k4 5 [6, 9]) 3 [7, 8]
theorem k_refs : rfz k0 7 3 = 0 ∧ rfz k1 8 5 = 0 ∧ rfz k2 9 5 = 0 ∧ rfz k3 6 5 = 0 := by decide +kernel
theorem k_small : (∀ p, p < 64 → (k0 p).length ≤ 999) ∧ (∀ p, p < 64 → (k1 p).length ≤ 999) ∧ (∀ p, p < 64 → (k2 p).length ≤ 999) ∧ (∀ p, p < 64 → (k3 p).length ≤ 999) ∧ (∀ p, p < 64 → (k4 p).length ≤ 999) ∧ (∀ p, p < 64 → (k5 p).length ≤ 999) := by decide +kernel
theorem k_all : allL k4 = [6, 8, 9, 7] ∧ allL k5 = [6, 9, 7, 8] := by decide +kernel
theorem k_where : ∀ p, p < 64 → 8 ∈ k4 p → p = 5 := by decide +kernel
theorem k_five : k4 5 = [6, 8, 9] ∧ k4 3 = [7] ∧ vld 3 = true := by decide +kernel
theorem k_change {ok : Bool} {L : Nat → List Int} (h : Cg k4 8 3 ok L) : ok = true ∧ L = k5 := by
  rcases h with ⟨p, i, hp, hi, hx, h⟩ | ⟨hno, _⟩
  · have h5 : p = 5 := k_where p hp (by rw [← hx]; exact getD_mem hi)
    subst h5
    rw [k_five.1] at hi hx h
    have hi1 : i = 1 := by
      match i, hi, hx with
      | 0, _, hx => exact absurd hx (by decide)
      | 1, _, _ => rfl
      | 2, _, hx => exact absurd hx (by decide)
      | i + 3, hi, _ => simp at hi; omega
    subst hi1
    rcases h with ⟨h, _⟩ | ⟨q, hq, _, _, rfl, rfl⟩ | ⟨h, _⟩
    · exact absurd h (by decide)
    · have : q = 3 := by omega
      subst this
      rw [k_five.2.1]
      exact ⟨rfl, rfl⟩
    · rw [k_five.2.2] at h; cases h
  · exact absurd (show (8 : Int) ∈ k4 5 by rw [k_five.1]; simp) (hno 5 (by omega))
theorem sm_of {Ls : Nat → List Int} (h : ∀ p, p < 64 → (Ls p).length ≤ 999) : Sm Ls := fun p hp => Nat.le_trans (h p hp) (by omega)
/-- Everything of a list lies from B on. -/
def Own (B g : Nat) (rb : Nat → Nat) : Prop := B ≤ g ∧ ∀ p, p < 64 → B ≤ rb p
theorem Nx.own {w w' : World} {g B : Nat} {rb rb' : Nat → Nat} {Ls : Nat → List Int} (h : Nx w w' g rb rb' Ls) (o : Own B g rb) (hB : B ≤ w.heap.size) : Own B g rb' :=
  ⟨o.1, fun p hp => by rcases h.fr p hp with e | e
                       · rw [e]; exact o.2 p hp
                       · omega⟩
theorem Nx.below {w w' : World} {g B : Nat} {rb rb' : Nat → Nat} {Ls : Nat → List Int} (h : Nx w w' g rb rb' Ls) (o : Own B g rb) (hB : B ≤ w.heap.size) : Below B w w' := h.ch.below o.1 o.2 hB
set_option maxRecDepth 100000 in
set_option maxHeartbeats 4000000 in
theorem known_any (w : World) : Calls Try.prog 13 #[] w fun e w' => e = .returned (.bool true) ∧ Below w.heap.size w w' := by
  have he : ∀ (x : Nat) (w : World), (binOp .eql 23 (.pointer (some ⟨x, 0, none⟩)) (.pointer none)).run Try.prog w = .ok (.bool false) w := fun _ _ => rfl
  go_enter Try.func13, Try.ntmps13
  go_wp2_with fail
  obtain ⟨g, hG⟩ : ∃ g, w.heap.size = g := ⟨_, rfl⟩
  have NW := Lib.hid (new_any w)
  have HG : Hid (w.heap.size ≤ g) := by unfold Hid; omega
  rw [hG] at NW
  refine NW.out.mono ?_
  rintro e w1 ⟨rfl, l1, b1⟩
  obtain ⟨r1, hr1⟩ : ∃ r1 : Nat → Nat, (fun _ : Nat => g) = r1 := ⟨_, rfl⟩
  have O1 : Hid (Own w.heap.size g r1) := by rw [← hr1]; exact ⟨HG.out, fun _ _ => HG.out⟩
  rw [hr1] at l1
  have N1 := Lib.hid (show LF w1 g r1 k0 from l1)
  have B1 : Hid (Below w.heap.size w w1) := by unfold Hid; rw [hG]; exact b1
  clear l1 b1 NW hG hr1
  go_wp2_with fail
  refine (put_any g r1 k0 7 3 w1 N1.out k_small.1).mono ?_
  rintro e w2 ⟨r2, rfl, n2⟩
  rw [k_refs.1]
  have N2 := Lib.hid (show Nx w1 w2 g r1 r2 k1 from n2)
  have B2 := Lib.hid (B1.out.trans (n2.below O1.out B1.out.size))
  have O2 := Lib.hid (n2.own O1.out B1.out.size)
  clear n2 N1 O1 B1
  go_wp2_with fail
  refine (put_any g r2 k1 8 5 w2 N2.out.lf k_small.2.1).mono ?_
  rintro e w3 ⟨r3, rfl, n3⟩
  rw [k_refs.2.1]
  have N3 := Lib.hid (show Nx w2 w3 g r2 r3 k2 from n3)
  have B3 := Lib.hid (B2.out.trans (n3.below O2.out B2.out.size))
  have O3 := Lib.hid (n3.own O2.out B2.out.size)
  clear n3 N2 O2 B2
  go_wp2_with fail
  refine (put_any g r3 k2 9 5 w3 N3.out.lf k_small.2.2.1).mono ?_
  rintro e w4 ⟨r4, rfl, n4⟩
  rw [k_refs.2.2.1]
  have N4 := Lib.hid (show Nx w3 w4 g r3 r4 k3 from n4)
  have B4 := Lib.hid (B3.out.trans (n4.below O3.out B3.out.size))
  have O4 := Lib.hid (n4.own O3.out B3.out.size)
  clear n4 N3 O3 B3
  go_wp2_with fail
  refine (front_any g r4 k3 6 5 w4 N4.out.lf k_small.2.2.2.1).mono ?_
  rintro e w5 ⟨r5, rfl, n5⟩
  rw [k_refs.2.2.2]
  have N5 := Lib.hid (show Nx w4 w5 g r4 r5 k4 from n5)
  have B5 := Lib.hid (B4.out.trans (n5.below O4.out B4.out.size))
  have O5 := Lib.hid (n5.own O4.out B4.out.size)
  clear n5 N4 O4 B4
  go_wp2_with fail
  have BA : Below w5.heap.size w5 (w5.alloc (.cells #[.int .i64 6, .int .i64 8, .int .i64 9, .int .i64 7] 3)) := (Below.refl _ _).alloc (Nat.le_refl _) _
  have L5 := Lib.hid (N5.out.lf.below BA)
  have B5 := Lib.hid (B5.out.trans (BA.mono B5.out.size))
  have RA : Hid (Reads (w5.alloc (.cells #[.int .i64 6, .int .i64 8, .int .i64 9, .int .i64 7] 3)) (w5.heap.size + 1) 1 (some ⟨w5.heap.size, 0, none⟩) 4 (C [6, 8, 9, 7])) := reads_newI w5 (C [6, 8, 9, 7]) 3
  refine (is_any g r5 k4 (some ⟨w5.heap.size, 0, none⟩) 4 4 [6, 8, 9, 7] _ (w5.heap.size + 1) L5.out (sm_of k_small.2.2.2.2.1) RA.out rfl (by omega) (by simp)).mono ?_
  rintro e w6 ⟨rfl, b6⟩
  rw [decide_eq_true k_all.1]
  have L6 := Lib.hid (L5.out.below b6)
  have B6 := Lib.hid (B5.out.trans (b6.mono B5.out.size))
  clear b6 L5 B5 RA BA N5
  go_wp2_with fail
  refine (change_any g r5 k4 8 3 w6 L6.out k_small.2.2.2.2.1).mono ?_
  rintro e w7 ⟨ok, L7, r7, rfl, c7, n7⟩
  obtain ⟨rfl, rfl⟩ := k_change c7
  have L7 := Lib.hid n7.lf
  have B7 := Lib.hid (B6.out.trans (n7.below O5.out B6.out.size))
  clear c7 n7 L6 B6
  go_wp2_with fail
  have BA : Below w7.heap.size w7 (w7.alloc (.cells #[.int .i64 6, .int .i64 9, .int .i64 7, .int .i64 8] 3)) := (Below.refl _ _).alloc (Nat.le_refl _) _
  have L8 := Lib.hid (L7.out.below BA)
  have B8 := Lib.hid (B7.out.trans (BA.mono B7.out.size))
  have RA : Hid (Reads (w7.alloc (.cells #[.int .i64 6, .int .i64 9, .int .i64 7, .int .i64 8] 3)) (w7.heap.size + 1) 1 (some ⟨w7.heap.size, 0, none⟩) 4 (C [6, 9, 7, 8])) := reads_newI w7 (C [6, 9, 7, 8]) 3
  refine (is_any g r7 k5 (some ⟨w7.heap.size, 0, none⟩) 4 4 [6, 9, 7, 8] _ (w7.heap.size + 1) L8.out (sm_of k_small.2.2.2.2.2) RA.out rfl (by omega) (by simp)).mono ?_
  rintro e w9 ⟨rfl, b9⟩
  rw [decide_eq_true k_all.2]
  have B9 := Lib.hid (B8.out.trans (b9.mono B8.out.size))
  clear b9 L8 B8 RA BA
  go_wp2_with fail
  go_ret
  exact ⟨rfl, B9.out⟩
theorem clone_nil (w : World) : Calls Try.prog 18 #[.pointer none] w fun e w' => e = .returned (.pointer none) ∧ w' = w := by
  have he : ∀ (w : World), (binOp .eql 23 (.pointer none) (.pointer none)).run Try.prog w = .ok (.bool true) w := fun _ => rfl
  go_enter Try.func18, Try.ntmps18
  go_wp2_with fail
  go_ret
  exact ⟨rfl, rfl⟩
theorem same_nil (w : World) : Calls Try.prog 19 #[.pointer none, .pointer none] w fun e w' => e = .returned (.bool true) ∧ w' = w := by
  have he : ∀ (w : World), (binOp .eql 23 (.pointer none) (.pointer none)).run Try.prog w = .ok (.bool true) w := fun _ => rfl
  go_enter Try.func19, Try.ntmps19
  go_wp2_with fail
  go_ret
  exact ⟨rfl, rfl⟩
theorem same_nil_some (g : Nat) (w : World) : Calls Try.prog 19 #[.pointer none, .pointer (some ⟨g, 0, none⟩)] w fun e w' => e = .returned (.bool false) ∧ w' = w := by
  have he : ∀ (w : World), (binOp .eql 23 (.pointer none) (.pointer none)).run Try.prog w = .ok (.bool true) w := fun _ => rfl
  have he2 : ∀ (w : World), (binOp .eql 23 (.pointer none) (.pointer (some ⟨g, 0, none⟩))).run Try.prog w = .ok (.bool false) w := fun _ => rfl
  go_enter Try.func19, Try.ntmps19
  go_wp2_with fail
  go_ret
  exact ⟨rfl, rfl⟩
end Go.Proofs.Ytbkjcjkbicaibaa
