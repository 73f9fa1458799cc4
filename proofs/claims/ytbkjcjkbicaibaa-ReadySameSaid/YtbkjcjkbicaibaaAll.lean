/-
  All and Len. Each statement bears its own conditions.
-/
import Derived.Test.YtbkjcjkbicaibaaPeek
namespace Go.Proofs.Ytbkjcjkbicaibaa
open Go.RowKit
set_option linter.unusedVariables false
set_option linter.unusedSimpArgs false
/-- The first j lines, from the highest priority on. -/
def af (Ls : Nat → List Int) : Nat → List Int
  | 0 => []
  | j + 1 => af Ls j ++ Ls (63 - j)
def allL (Ls : Nat → List Int) : List Int := af Ls 64
theorem af_len {Ls : Nat → List Int} (hs : Sm Ls) (j : Nat) (hj : j ≤ 64) : (af Ls j).length ≤ j * 1000 := by
  induction j with
  | zero => simp [af]
  | succ j ih =>
    have h1 := ih (by omega)
    have h2 := hs (63 - j) (by omega)
    simp only [af, List.length_append]; omega
theorem af_skip (Ls : Nat → List Int) (d : Nat) : ∀ {k : Nat}, d ≤ k → k ≤ 64 → (∀ q, k - d ≤ q → q < k → Ls q = []) → af Ls (64 - (k - d)) = af Ls (64 - k) := by
  induction d with
  | zero => intro k _ _ _; rfl
  | succ d ih =>
    intro k h1 h2 h3
    rw [show 64 - (k - (d + 1)) = (64 - (k - d)) + 1 by omega]
    show af Ls (64 - (k - d)) ++ Ls (63 - (64 - (k - d))) = _
    rw [ih (by omega) h2 (fun q h4 h5 => h3 q (by omega) h5), h3 (63 - (64 - (k - d))) (by omega) (by omega), List.append_nil]
theorem af_next {Ls : Nat → List Int} {p k : Nat} (h : p < k) (hk : k ≤ 64) (he : ∀ q, p < q → q < k → Ls q = []) : af Ls (64 - p) = af Ls (64 - k) ++ Ls p := by
  have := af_skip Ls (k - (p + 1)) (k := k) (by omega) hk (fun q h1 h2 => he q (by omega) h2)
  rw [show 64 - p = (64 - (k - (k - (p + 1)))) + 1 by omega]
  show af Ls (64 - (k - (k - (p + 1)))) ++ Ls (63 - (64 - (k - (k - (p + 1))))) = _
  rw [this]
  congr 2; omega
theorem RowV.reads {w : World} {A : Option Addr} {n c rb : Nat} {L : List Int} (h : RowV w (.slice A n c) rb L) : Reads w w.heap.size 1 A L.length (C L) := by
  rcases h.form with ⟨_, h0⟩ | ⟨cap, cur, hv, hg, h1, h2, h3, h4⟩
  · subst h0; exact ⟨rfl, fun hn => absurd hn (by simp)⟩
  · injection hv with hA hn hc
    subst hA
    refine ⟨by simp [C_len], fun hn => ⟨_, rfl, ?_, fun j u hu => ?_⟩⟩
    · rcases h.lt with h5 | h5
      · injection h5 with h5; cases h5
      · exact h5
    · rw [Addr.add_lit, Nat.zero_add, (row_cell hg j).1, ← Array.getElem?_toList]
      have h6 : j < L.length := by
        have := (List.getElem?_eq_some_iff.1 hu).1
        rw [C_len] at this; exact this
      rw [← h4, List.getElem?_take_of_lt h6] at hu
      exact hu
structure AlRel (Ls : Nat → List Int) (w : World) (v3 v4 : Value) (wr : World) : Prop where
  ex : ∃ (R k n c : Nat) (A : Option Addr), v4 = .int .u64 (R : Int) ∧ R < 2 ^ 64 ∧ k ≤ 64 ∧ (∀ q, q < 64 → R.testBit q = (decide (q < k) && !(Ls q).isEmpty)) ∧ v3 = .slice A n c ∧ wr.ownsRow w.heap.size 3 1 (.slice A n c) n (C (af Ls (64 - k))) ∧ Below w.heap.size w wr
theorem all_nil (w : World) : Calls Try.prog 21 #[.pointer none] w fun e w' => e = .returned (.slice none 0 0) ∧ w' = w := by
  have he : ∀ (w : World), (binOp .eql 23 (.pointer none) (.pointer none)).run Try.prog w = .ok (.bool true) w := fun _ => rfl
  go_enter Try.func21, Try.ntmps21
  go_wp2_with fail
  go_ret
  exact ⟨rfl, rfl⟩
set_option maxRecDepth 100000 in
set_option maxHeartbeats 4000000 in
theorem all_any (g : Nat) (rb : Nat → Nat) (Ls : Nat → List Int) (w : World) (h : LF w g rb Ls) (hs : Sm Ls) :
    Calls Try.prog 21 #[.pointer (some ⟨g, 0, none⟩)] w fun e w' => ∃ A n c, e = .returned (.slice A n c) ∧ w'.ownsRow w.heap.size 3 1 (.slice A n c) n (C (allL Ls)) ∧ Below w.heap.size w w' := by
  have he : ∀ (x : Nat) (w : World), (binOp .eql 23 (.pointer (some ⟨x, 0, none⟩)) (.pointer none)).run Try.prog w = .ok (.bool false) w := fun _ _ => rfl
  obtain ⟨i0, hi, hz0, hz1, hz2⟩ := info_of int_info
  obtain ⟨F, hx, hw⟩ := h.lx
  have hwc := hx.wc
  have HX := Lib.hid hx
  have HW := Lib.hid hw
  have HS := Lib.hid hs
  clear h hx hw hs
  go_enter Try.func21, Try.ntmps21
  go_wp2_with fail
  go_loopw [3, 4] (fun v3 v4 wr => AlRel Ls w v3 v4 wr) (fun _ v => fun _ => (intOf v).toNat)
  case atStart => exact ⟨⟨F, 64, 0, 0, none, rfl, HX.out.flt, Nat.le_refl _, fun q hq => by rw [HW.out q hq, decide_eq_true hq]; rfl, rfl, World.ownsRow_nil _ _ _ _, Below.refl _ _⟩⟩
  case round =>
    obtain ⟨⟨R, k, n, c, A, rfl, hR, hk, hRb, rfl, ho, hb⟩⟩ := hrel
    have HR := Lib.hid hR
    have HK := Lib.hid hk
    have HRb := Lib.hid hRb
    have HO := Lib.hid ho
    have HB := Lib.hid hb
    clear hR hk hRb ho hb hwc
    by_cases hR0 : R = 0
    · subst hR0
      have HE : Hid (af Ls (64 - k) = allL Ls) := by
        unfold Hid allL
        have := af_skip Ls k (k := k) (Nat.le_refl _) HK.out (fun q _ h2 => by
          have h1 := HRb.out q (by have := HK.out; omega)
          rw [Nat.zero_testBit, decide_eq_true h2, Bool.true_and] at h1
          simpa using h1.symm)
        rw [← this]; congr 1; omega
      go_wp2_with fail
      go_ret
      exact ⟨A, n, c, rfl, by rw [← HE.out]; exact HO.out, HB.out⟩
    · obtain ⟨p, ht⟩ := top_of HR.out hR0
      have hRI : ¬ (R : Int) = 0 := by omega
      have hRB : ((R : Int) == 0) = false := by rw [beq_eq_false_iff_ne]; omega
      have hRB2 : ((R : Int) != 0) = true := by rw [bne_iff_ne]; omega
      have HT := Lib.hid ht
      have hp : p < 64 := ht.lt
      have hpk : Hid (p < k ∧ Ls p ≠ []) := by
        have h1 := HRb.out p hp
        rw [HT.out.bit] at h1
        unfold Hid
        refine ⟨?_, fun h2 => ?_⟩
        · by_cases h3 : p < k
          · exact h3
          · rw [decide_eq_false h3] at h1; simp at h1
        · rw [h2] at h1; simp at h1
      have HAF : Hid (af Ls (64 - p) = af Ls (64 - k) ++ Ls p) := af_next hpk.out.1 HK.out fun q h1 h2 => by
        have h3 := HT.out.none_ q h1
        rw [HRb.out q (by have := HK.out; omega), decide_eq_true h2, Bool.true_and] at h3
        simpa using h3
      have hx2 := HX.out.below HB.out
      obtain ⟨v, hc, hv, _⟩ := hx2.ln p hp
      obtain ⟨m, hm⟩ : ∃ m, (Ls p).length = m := ⟨_, rfl⟩
      obtain ⟨⟨c', rfl⟩, _, _⟩ := hv.cells 0 (List.length_pos_iff.2 hpk.out.2)
      have HRD : Hid (Reads wr wr.heap.size 1 (some ⟨rb p, 0, none⟩) m (C (Ls p))) := by rw [← hm]; exact hv.reads
      have HNB : Hid (n ≤ 64000 ∧ m ≤ 1000) := by
        have h1 := HO.out.1
        rw [C_len] at h1
        have h2 := af_len HS.out (64 - k) (by omega)
        have h3 := HS.out p hp
        unfold Hid; omega
      rw [hm] at hc
      have HC := Lib.hid hc
      have HP : Hid (p < 64) := hp
      have hpI : (p : Int) < 64 := by omega
      have HCL := Lib.hid (clr_eq HR.out hp)
      clear hR0 ht hp hc hv hx2 hm
      go_wp2_with fail
      refine wp_region_held_drew (S := (fun _ => True)) (by kernel_rfl) trivial (fun _ => ?_)
      have HO : Hid (wr.drew.ownsRow w.heap.size 3 1 (.slice A n c) n (C (af Ls (64 - k)))) := HO.out
      have HB : Hid (Below w.heap.size w wr.drew) := HB.out.drew
      have HRD : Hid (Reads wr.drew wr.drew.heap.size 1 (some ⟨rb p, 0, none⟩) m (C (Ls p))) := HRD.out
      have HC : Hid (wr.drew.cell? ⟨g, 1 + p, none⟩ = some (.slice (some ⟨rb p, 0, none⟩) m c')) := HC.out
      generalize wr.drew = w2 at HO HB HRD HC ⊢
      refine takeD (i := 0) (d := some 18) (v := ?_) _ rfl rfl (by kernel_rfl) (by kernel_rfl) (by kernel_rfl) (fun _ _ _ h => h) (by rfl) ?_ trivial ?_
      rotate_left
      · (intro w hSw; (try dsimp only at hSw); go_simp) <;> with_reducible rfl
      try simp only [Act.put, List.setIfInBounds_toArray, List.set_cons_zero, List.set_cons_succ]
      refine takeD (i := 1) (d := some 19) (v := ?_) _ rfl rfl (by kernel_rfl) (by kernel_rfl) (by kernel_rfl) (fun _ _ _ h => h) (by rfl) ?_ trivial ?_
      rotate_left
      · (intro w hSw; (try dsimp only at hSw); go_simp) <;> with_reducible rfl
      try simp only [Act.put, List.setIfInBounds_toArray, List.set_cons_zero, List.set_cons_succ]
      refine takeD (i := 2) (d := some 20) (v := ?_) _ rfl rfl (by kernel_rfl) (by kernel_rfl) (by kernel_rfl) (fun _ _ _ h => h) (by rfl) ?_ trivial ?_
      rotate_left
      · (intro w hSw; (try dsimp only at hSw); go_simp) <;> with_reducible rfl
      try simp only [Act.put, List.setIfInBounds_toArray, List.set_cons_zero, List.set_cons_succ]
      refine takeD (i := 4) (d := some 22) (v := ?_) _ rfl rfl (by kernel_rfl) (by kernel_rfl) (by kernel_rfl) (fun _ _ _ h => h) (by rfl) ?_ trivial ?_
      rotate_left
      · (intro w hSw; (try dsimp only at hSw); go_simp) <;> with_reducible rfl
      try simp only [Act.put, List.setIfInBounds_toArray, List.set_cons_zero, List.set_cons_succ]
      refine takeD (i := 5) (d := some 23) (v := ?_) _ rfl rfl (by kernel_rfl) (by kernel_rfl) (by kernel_rfl) (fun _ _ _ h => h) (by rfl) ?_ trivial ?_
      rotate_left
      · (intro w hSw; (try dsimp only at hSw); go_simp) <;> with_reducible rfl
      try simp only [Act.put, List.setIfInBounds_toArray, List.set_cons_zero, List.set_cons_succ]
      refine wpAnyH_ready (rs := [3]) (by kernel_rfl) (by simp) ?_
      refine AllReadyH.cons rfl (fun K hK => ?_) AllReadyH.nil
      go_simp
      go_at_call 33
      refine (first_any R p _ HT.out).mono ?_
      rintro e w2 ⟨rfl, rfl⟩
      try go_wp2_with fail
      refine hK.out _ _ trivial (fun _ => ?_)
      clear hK K
      try simp only [Act.put, List.setIfInBounds_toArray, List.set_cons_zero, List.set_cons_succ]
      refine takeD (i := 6) (d := some 24) (v := ?_) _ rfl rfl (by kernel_rfl) (by kernel_rfl) (by kernel_rfl) (fun _ _ _ h => h) (by rfl) ?_ trivial ?_
      rotate_left
      · (intro w hSw; (try dsimp only at hSw); go_simp) <;> with_reducible rfl
      try simp only [Act.put, List.setIfInBounds_toArray, List.set_cons_zero, List.set_cons_succ]
      refine wpAnyH_ready (rs := [7]) (by kernel_rfl) (by simp) ?_
      refine AllReadyH.cons rfl (fun K hK => ?_) AllReadyH.nil
      have cc := HC.out
      go_simp
      clear cc
      refine hK.out _ _ trivial (fun _ => ?_)
      clear hK K
      try simp only [Act.put, List.setIfInBounds_toArray, List.set_cons_zero, List.set_cons_succ]
      refine wpAnyH_ready (rs := [8]) (by kernel_rfl) (by simp) ?_
      refine AllReadyH.cons rfl (fun K hK => ?_) AllReadyH.nil
      refine wp_append_any w2 (.tmp 18) (.tmp 25) _ rfl w.heap.size 3 i0 _ 1 8 Try.underlying43 hi hz0 hz1 hz2 rfl (by omega) (.slice A n c) n (C (af Ls (64 - k))) rfl HO.out w2.heap.size (some ⟨rb p, 0, none⟩) m c' (C (Ls p)) rfl HRD.out (C_one _) ?c2 ?c3 ?c4 ?_
      case c2 => have := HNB.out; unfold maxLen; omega
      case c3 => have := HNB.out; omega
      case c4 => exact HB.out.size
      intro v1 w9 hown1 hg1 hor
      have hown1' : w9.ownsRow w.heap.size 3 1 v1 (n + m) (C (af Ls (64 - p))) := by
        rw [HAF.out, C_app]; exact hown1
      obtain ⟨A1, c1, hv⟩ := slice_form hown1'
      subst hv
      have HO9 := Lib.hid hown1'
      have HB9 : Hid (Below w.heap.size w w9) := HB.out.trans ⟨hg1.os, hg1.tape, hg1.output, hg1.size, fun q hq => hg1.block q (by have := HB.out.size; omega) (fun e => by have := (HO.out.lt q e.symm).1; omega)⟩
      clear hown1 hown1' hg1 hor
      refine hK.out _ _ trivial (fun _ => ?_)
      clear hK K
      try simp only [Act.put, List.setIfInBounds_toArray, List.set_cons_zero, List.set_cons_succ]
      refine takeD (i := 9) (d := some 3) (v := ?_) _ rfl rfl (by kernel_rfl) (by kernel_rfl) (by kernel_rfl) (fun _ _ _ h => h) (by rfl) ?_ trivial ?_
      rotate_left
      · (intro w hSw; (try dsimp only at hSw); go_simp) <;> with_reducible rfl
      try simp only [Act.put, List.setIfInBounds_toArray, List.set_cons_zero, List.set_cons_succ]
      refine wpAnyH_done (by kernel_rfl) ?_ _
      go_wp2_with fail
      refine (first_any R p w9 HT.out).mono ?_
      rintro e w10 ⟨rfl, rfl⟩
      go_wp2_with fail
      go_roundw
      case rel =>
        have Q : AlRel Ls w (.slice A1 (n + m) c1) (.int .u64 (bits .andNot .u64 (R : Int) (IntKind.u64.wrap (2 ^ p)))) w10 := by
          rw [HCL.out]
          exact ⟨⟨clr R p, p, n + m, c1, A1, rfl, clr_lt p HR.out, by have := HP.out; omega, fun q hq => by
            rw [clr_bit HR.out HP.out, HRb.out q hq]
            have hpk := hpk.out.1
            rcases Nat.lt_trichotomy q p with h | h | h
            · rw [decide_eq_true (show q < k by omega), decide_eq_true (show q ≠ p by omega), decide_eq_true h]; simp
            · rw [decide_eq_false (show ¬ q ≠ p by omega), decide_eq_false (show ¬ q < p by omega)]; simp
            · have h2 := HT.out.none_ q h
              rw [HRb.out q hq] at h2
              rw [h2, decide_eq_false (show ¬ q < p by omega)]; rfl, rfl, HO9.out, HB9.out⟩⟩
        first | exact Q | ((repeat apply Exists.intro); exact ⟨Q, rfl⟩)
      case measure =>
        have h1 : clr R p < R := by
          refine Nat.lt_of_le_of_ne Nat.and_le_left (fun e => ?_)
          have h2 := clr_bit HR.out HP.out p
          rw [e, HT.out.bit] at h2
          simp at h2
        have := HCL.out
        simp [intOf]; omega
/-- How many there are in the lines below k. -/
def ln (Ls : Nat → List Int) : Nat → Nat
  | 0 => 0
  | k + 1 => ln Ls k + (Ls k).length
theorem ln_le {Ls : Nat → List Int} (hs : Sm Ls) (k : Nat) (hk : k ≤ 64) : ln Ls k ≤ k * 1000 := by
  induction k with
  | zero => simp [ln]
  | succ k ih =>
    have h1 := ih (by omega)
    have h2 := hs k (by omega)
    simp only [ln]; omega
structure LnRel (Ls : Nat → List Int) (w : World) (v3 v7 : Value) (wr : World) : Prop where
  ex : ∃ k : Nat, k ≤ 64 ∧ v7 = .int .i64 (k : Int) ∧ v3 = .int .i64 (ln Ls k : Int) ∧ wr = w
theorem len_nil (w : World) : Calls Try.prog 17 #[.pointer none] w fun e w' => e = .returned (.int .i64 0) ∧ w' = w := by
  have he : ∀ (w : World), (binOp .eql 23 (.pointer none) (.pointer none)).run Try.prog w = .ok (.bool true) w := fun _ => rfl
  go_enter Try.func17, Try.ntmps17
  go_wp2_with fail
  go_ret
  exact ⟨rfl, rfl⟩
set_option maxRecDepth 100000 in
theorem len_any (g : Nat) (rb : Nat → Nat) (Ls : Nat → List Int) (w : World) (h : LF w g rb Ls) (hs : Sm Ls) :
    Calls Try.prog 17 #[.pointer (some ⟨g, 0, none⟩)] w fun e w' => e = .returned (.int .i64 (ln Ls 64 : Int)) ∧ w' = w := by
  have he : ∀ (x : Nat) (w : World), (binOp .eql 23 (.pointer (some ⟨x, 0, none⟩)) (.pointer none)).run Try.prog w = .ok (.bool false) w := fun _ _ => rfl
  have H := Lib.hid h
  have HS := Lib.hid hs
  clear h hs
  go_enter Try.func17, Try.ntmps17
  go_wp2_with fail
  go_loopw [3, 7] (fun v3 v7 wr => LnRel Ls w v3 v7 wr) (fun _ v => fun _ => 65 - (intOf v).toNat)
  case atStart => exact ⟨⟨0, Nat.zero_le _, rfl, rfl, rfl⟩⟩
  case round =>
    obtain ⟨⟨k, hk, rfl, rfl, rfl⟩⟩ := hrel
    have HK := Lib.hid hk
    clear hk
    by_cases hlt : k < 64
    · have hkI : (k : Int) < 64 := by omega
      obtain ⟨v, hc, hv, _⟩ := H.out.ln k hlt
      obtain ⟨A, c, rfl, _⟩ := hv.slice
      have HX : Hid (k < 64) := hlt
      have HLE := Lib.hid (ln_le HS.out k (by omega))
      have HLN : Hid (ln Ls (k + 1) = ln Ls k + (Ls k).length) := rfl
      have HSk := Lib.hid (HS.out k hlt)
      obtain ⟨n, hn⟩ : ∃ n, (Ls k).length = n := ⟨_, rfl⟩
      rw [hn] at hc HLN HSk
      obtain ⟨s, hs⟩ : ∃ s, ln Ls k = s := ⟨_, rfl⟩
      rw [hs] at HLE HLN ⊢
      have hw1 : IntKind.i64.wrap ((s : Int) + (n : Int)) = (s : Int) + (n : Int) := by
        have := HLE.out; have := HSk.out
        rw [IntKind.wrap_i64]; omega
      clear hlt hv hn hs
      go_wp2_with fail
      go_roundw
      case rel =>
        have Q : LnRel Ls wr (.int .i64 ((s : Int) + (n : Int))) (.int .i64 ((k : Int) + 1)) wr := ⟨⟨k + 1, HX.out, by go_num, by rw [HLN.out]; go_num, rfl⟩⟩
        first | exact Q | ((repeat apply Exists.intro); exact ⟨Q, rfl⟩)
      case measure => have := HX.out; simp [intOf]; omega
    · have hkI : ¬ (k : Int) < 64 := by omega
      have hk : k = 64 := by have := HK.out; omega
      subst hk
      clear hlt
      go_wp2_with fail
      go_ret
      exact ⟨rfl, rfl⟩
end Go.Proofs.Ytbkjcjkbicaibaa
