/-
  What the program's Right answers of Window, End, Link, Budget. Each statement bears its own conditions.
-/
import Derived.Test.YtchlgihanogeeaaAllB
namespace Go.Proofs.Ytchlgihanogeeaa
open Go.RowKit
set_option linter.unusedVariables false
set_option linter.unusedSimpArgs false
def rightWindow (x : MWindow) : Bool := inB x.qa 0 15 && inB x.qb 0 1048576 && inB x.qc 1 1048576
set_option maxRecDepth 100000 in
set_option maxHeartbeats 4000000 in
theorem rightWindow_core (qa : Int) (qb : Int) (qc : Int) (w : World)  :
    Calls Try.prog 100 #[.agg #[.int .i64 qa, .int .i64 qb, .int .i64 qc]] w fun e w' => e = .returned (.bool (rightWindow ⟨qa, qb, qc⟩)) ∧ Below w.heap.size w w' := by
  obtain ⟨t0, h0⟩ : ∃ t : Bool, inB qa 0 15 = t := ⟨_, rfl⟩
  obtain ⟨t1, h1⟩ : ∃ t : Bool, inB qb 0 1048576 = t := ⟨_, rfl⟩
  obtain ⟨t2, h2⟩ : ∃ t : Bool, inB qc 1 1048576 = t := ⟨_, rfl⟩
  have HR : Hid (rightWindow ⟨qa, qb, qc⟩ = (t0 && t1 && t2)) := by unfold Hid rightWindow; dsimp only; rw [h0, h1, h2]
  have C0 : Hid (∀ W, Calls Try.prog 28 #[.int .i64 qa, .int .i64 0, .int .i64 15] W fun e w' => e = .returned (.bool t0) ∧ w' = W) := fun W => by rw [← h0]; exact within_any qa _ _ W
  have C1 : Hid (∀ W, Calls Try.prog 28 #[.int .i64 qb, .int .i64 0, .int .i64 1048576] W fun e w' => e = .returned (.bool t1) ∧ w' = W) := fun W => by rw [← h1]; exact within_any qb _ _ W
  have C2 : Hid (∀ W, Calls Try.prog 28 #[.int .i64 qc, .int .i64 1, .int .i64 1048576] W fun e w' => e = .returned (.bool t2) ∧ w' = W) := fun W => by rw [← h2]; exact within_any qc _ _ W
  clear h0 h1 h2
  cases t0 with
  | false =>
    go_enter Try.func100, Try.ntmps100
    go_wp2_with fail
    obtain ⟨W0, hW0⟩ : ∃ W0, w.alloc (.cells #[.int .i64 qa, .int .i64 qb, .int .i64 qc] 84) = W0 := ⟨_, rfl⟩
    have d0 : W0.cell? ⟨w.heap.size, 0, none⟩ = some (.int .i64 qa) := by rw [← hW0, World.cell?_alloc_new]; rfl
    have d1 : W0.cell? ⟨w.heap.size, 1, none⟩ = some (.int .i64 qb) := by rw [← hW0, World.cell?_alloc_new]; rfl
    have d2 : W0.cell? ⟨w.heap.size, 2, none⟩ = some (.int .i64 qc) := by rw [← hW0, World.cell?_alloc_new]; rfl
    have B0 : Hid (Below w.heap.size w W0) := by rw [← hW0]; exact (Below.refl _ _).alloc (Nat.le_refl _) _
    rw [hW0]
    clear hW0
    refine (C0.out _).mono ?_
    rintro e W ⟨rfl, h⟩
    have h := h.symm
    subst h
    go_wp2_with fail
    go_ret
    exact ⟨by rw [HR.out]; rfl, B0.out⟩
  | true =>
    cases t1 with
    | false =>
      go_enter Try.func100, Try.ntmps100
      go_wp2_with fail
      obtain ⟨W0, hW0⟩ : ∃ W0, w.alloc (.cells #[.int .i64 qa, .int .i64 qb, .int .i64 qc] 84) = W0 := ⟨_, rfl⟩
      have d0 : W0.cell? ⟨w.heap.size, 0, none⟩ = some (.int .i64 qa) := by rw [← hW0, World.cell?_alloc_new]; rfl
      have d1 : W0.cell? ⟨w.heap.size, 1, none⟩ = some (.int .i64 qb) := by rw [← hW0, World.cell?_alloc_new]; rfl
      have d2 : W0.cell? ⟨w.heap.size, 2, none⟩ = some (.int .i64 qc) := by rw [← hW0, World.cell?_alloc_new]; rfl
      have B0 : Hid (Below w.heap.size w W0) := by rw [← hW0]; exact (Below.refl _ _).alloc (Nat.le_refl _) _
      rw [hW0]
      clear hW0
      refine (C0.out _).mono ?_
      rintro e W ⟨rfl, h⟩
      have h := h.symm
      subst h
      go_wp2_with fail
      refine (C1.out _).mono ?_
      rintro e W ⟨rfl, h⟩
      have h := h.symm
      subst h
      go_wp2_with fail
      go_ret
      exact ⟨by rw [HR.out]; rfl, B0.out⟩
    | true =>
      cases t2 with
      | false =>
        go_enter Try.func100, Try.ntmps100
        go_wp2_with fail
        obtain ⟨W0, hW0⟩ : ∃ W0, w.alloc (.cells #[.int .i64 qa, .int .i64 qb, .int .i64 qc] 84) = W0 := ⟨_, rfl⟩
        have d0 : W0.cell? ⟨w.heap.size, 0, none⟩ = some (.int .i64 qa) := by rw [← hW0, World.cell?_alloc_new]; rfl
        have d1 : W0.cell? ⟨w.heap.size, 1, none⟩ = some (.int .i64 qb) := by rw [← hW0, World.cell?_alloc_new]; rfl
        have d2 : W0.cell? ⟨w.heap.size, 2, none⟩ = some (.int .i64 qc) := by rw [← hW0, World.cell?_alloc_new]; rfl
        have B0 : Hid (Below w.heap.size w W0) := by rw [← hW0]; exact (Below.refl _ _).alloc (Nat.le_refl _) _
        rw [hW0]
        clear hW0
        refine (C0.out _).mono ?_
        rintro e W ⟨rfl, h⟩
        have h := h.symm
        subst h
        go_wp2_with fail
        refine (C1.out _).mono ?_
        rintro e W ⟨rfl, h⟩
        have h := h.symm
        subst h
        go_wp2_with fail
        refine (C2.out _).mono ?_
        rintro e W ⟨rfl, h⟩
        have h := h.symm
        subst h
        go_wp2_with fail
        go_ret
        exact ⟨by rw [HR.out]; rfl, B0.out⟩
      | true =>
        go_enter Try.func100, Try.ntmps100
        go_wp2_with fail
        obtain ⟨W0, hW0⟩ : ∃ W0, w.alloc (.cells #[.int .i64 qa, .int .i64 qb, .int .i64 qc] 84) = W0 := ⟨_, rfl⟩
        have d0 : W0.cell? ⟨w.heap.size, 0, none⟩ = some (.int .i64 qa) := by rw [← hW0, World.cell?_alloc_new]; rfl
        have d1 : W0.cell? ⟨w.heap.size, 1, none⟩ = some (.int .i64 qb) := by rw [← hW0, World.cell?_alloc_new]; rfl
        have d2 : W0.cell? ⟨w.heap.size, 2, none⟩ = some (.int .i64 qc) := by rw [← hW0, World.cell?_alloc_new]; rfl
        have B0 : Hid (Below w.heap.size w W0) := by rw [← hW0]; exact (Below.refl _ _).alloc (Nat.le_refl _) _
        rw [hW0]
        clear hW0
        refine (C0.out _).mono ?_
        rintro e W ⟨rfl, h⟩
        have h := h.symm
        subst h
        go_wp2_with fail
        refine (C1.out _).mono ?_
        rintro e W ⟨rfl, h⟩
        have h := h.symm
        subst h
        go_wp2_with fail
        refine (C2.out _).mono ?_
        rintro e W ⟨rfl, h⟩
        have h := h.symm
        subst h
        go_wp2_with fail
        go_ret
        exact ⟨by rw [HR.out]; rfl, B0.out⟩
structure AllWindowRel (n : Nat) (xs : List MWindow) (w : World) (v : Value) (wr : World) : Prop where
  ex : ∃ k : Nat, k ≤ n ∧ v = .int .i64 (k : Int) ∧ (∀ (j : Nat) y, xs[j]? = some y → j < k → rightWindow y = true) ∧ Below w.heap.size w wr
set_option maxRecDepth 100000 in
set_option maxHeartbeats 4000000 in
theorem allWindow_any (v : Value) (xs : List MWindow) (most : Int) (w : World) (h : Row w 3 RWindow v xs) :
    Calls Try.prog 99 #[v, .int .i64 most, .func (.func 100) #[] #[]] w fun e w' => e = .returned (.bool (allB most rightWindow xs)) ∧ Below w.heap.size w w' := by
  obtain ⟨a, cap, rfl, hm⟩ := h.form
  obtain ⟨n, hn⟩ : ∃ n, xs.length = n := ⟨_, rfl⟩
  rw [hn] at h hm ⊢
  have HN := Lib.hid hn
  have H := Lib.hid h
  unfold rowMax at hm
  clear hn h
  by_cases hgt : most < (n : Int)
  · have HR : Hid (allB most rightWindow xs = false) := by unfold Hid allB; rw [HN.out, decide_eq_false (by omega)]; rfl
    go_enter Try.func99, Try.ntmps99
    go_wp2_with fail
    go_ret
    exact ⟨by rw [HR.out]; rfl, Below.refl _ _⟩
  · have hgt' : (n : Int) ≤ most := by omega
    have HR : Hid (allB most rightWindow xs = xs.all rightWindow) := by unfold Hid allB; rw [HN.out, decide_eq_true hgt']; rfl
    go_enter Try.func99, Try.ntmps99
    go_wp2_with fail
    go_loopw [15] (fun v wr => AllWindowRel n xs w v wr) (fun v => fun _ => n - (intOf v).toNat)
    case atStart => exact ⟨⟨0, Nat.zero_le _, rfl, fun j y _ h => by omega, Below.refl _ _⟩⟩
    case round =>
      obtain ⟨⟨k, hk, rfl, hall, hb⟩⟩ := hrel
      have HK := Lib.hid hk
      have HA := Lib.hid hall
      have HB := Lib.hid hb
      clear hk hall hb
      by_cases hlt : k < n
      · have hkI : (k : Int) < (n : Int) := by omega
        have HX : Hid (k < n) := hlt
        obtain ⟨hnx, b, off, x, cs, rfl, hbl, hx, hR, _, hc⟩ := H.out.at_ k hlt
        clear hnx
        have HXS := Lib.hid hx
        obtain ⟨qa, qb, qc⟩ := x
        obtain ⟨rfl, _⟩ := hR
        have d0 : wr.cell? ⟨b, off + k * 3, none⟩ = some (.int .i64 qa) := cell_later HB.out (hc 0 _ rfl)
        have d1 : wr.cell? ⟨b, off + k * 3 + 1, none⟩ = some (.int .i64 qb) := cell_later HB.out (hc 1 _ rfl)
        have d2 : wr.cell? ⟨b, off + k * 3 + 2, none⟩ = some (.int .i64 qc) := cell_later HB.out (hc 2 _ rfl)
        obtain ⟨t, ht⟩ : ∃ t, rightWindow ⟨qa, qb, qc⟩ = t := ⟨_, rfl⟩
        have HT := Lib.hid ht
        have C : Hid (Calls Try.prog 100 #[.agg #[.int .i64 qa, .int .i64 qb, .int .i64 qc]] (wr.alloc (.cells #[.int .i64 qa, .int .i64 qb, .int .i64 qc] 84)) fun e w' => e = .returned (.bool t) ∧ Below (wr.alloc (.cells #[.int .i64 qa, .int .i64 qb, .int .i64 qc] 84)).heap.size (wr.alloc (.cells #[.int .i64 qa, .int .i64 qb, .int .i64 qc] 84)) w') := by
          unfold Hid
          rw [← ht]; exact rightWindow_core qa qb qc  _  
        clear hc ht hlt  
        go_wp2_with fail
        refine C.out.mono ?_
        rintro e W1 ⟨rfl, b1⟩
        have HB1 : Hid (Below w.heap.size w W1) := (HB.out.alloc HB.out.size _).trans (b1.mono (by have := HB.out.size; simp; omega))
        clear b1 C
        cases t with
        | true =>
          go_wp2_with fail
          go_roundw
          case rel =>
            have Q : AllWindowRel n xs w (.int .i64 ((k : Int) + 1)) W1 := ⟨⟨k + 1, HX.out, by go_num, fun j y hy hj => by
              by_cases e : j = k
              · subst e
                have e2 := HXS.out.symm.trans hy
                injection e2 with e2
                rw [← e2]; exact HT.out
              · exact HA.out j y hy (by omega), HB1.out⟩⟩
            first | exact Q | ((repeat apply Exists.intro); exact ⟨Q, rfl⟩)
          case measure => have := HX.out; simp [intOf]; omega
        | false =>
          have HF : Hid (xs.all rightWindow = false) := all_false HXS.out HT.out
          go_wp2_with fail
          go_ret
          exact ⟨by rw [HR.out, HF.out]; rfl, HB1.out⟩
      · have hkI : ¬ (k : Int) < (n : Int) := by omega
        have HF : Hid (xs.all rightWindow = true) := all_true fun j y hy => HA.out j y hy (by have h1 := (List.getElem?_eq_some_iff.1 hy).1; have := HN.out; have := HK.out; omega)
        go_wp2_with fail
        go_ret
        exact ⟨by rw [HR.out, HF.out]; rfl, HB.out⟩
def rightEnd (x : MEnd) : Bool := inB x.qa (-1) 15 && inB x.qb 0 15
set_option maxRecDepth 100000 in
set_option maxHeartbeats 4000000 in
theorem rightEnd_core (qa : Int) (qb : Int) (w : World)  :
    Calls Try.prog 101 #[.agg #[.int .i64 qa, .int .i64 qb]] w fun e w' => e = .returned (.bool (rightEnd ⟨qa, qb⟩)) ∧ Below w.heap.size w w' := by
  obtain ⟨t0, h0⟩ : ∃ t : Bool, inB qa (-1) 15 = t := ⟨_, rfl⟩
  obtain ⟨t1, h1⟩ : ∃ t : Bool, inB qb 0 15 = t := ⟨_, rfl⟩
  have HR : Hid (rightEnd ⟨qa, qb⟩ = (t0 && t1)) := by unfold Hid rightEnd; dsimp only; rw [h0, h1]
  have C0 : Hid (∀ W, Calls Try.prog 28 #[.int .i64 qa, .int .i64 (-1), .int .i64 15] W fun e w' => e = .returned (.bool t0) ∧ w' = W) := fun W => by rw [← h0]; exact within_any qa _ _ W
  have C1 : Hid (∀ W, Calls Try.prog 28 #[.int .i64 qb, .int .i64 0, .int .i64 15] W fun e w' => e = .returned (.bool t1) ∧ w' = W) := fun W => by rw [← h1]; exact within_any qb _ _ W
  clear h0 h1
  cases t0 with
  | false =>
    go_enter Try.func101, Try.ntmps101
    go_wp2_with fail
    obtain ⟨W0, hW0⟩ : ∃ W0, w.alloc (.cells #[.int .i64 qa, .int .i64 qb] 69) = W0 := ⟨_, rfl⟩
    have d0 : W0.cell? ⟨w.heap.size, 0, none⟩ = some (.int .i64 qa) := by rw [← hW0, World.cell?_alloc_new]; rfl
    have d1 : W0.cell? ⟨w.heap.size, 1, none⟩ = some (.int .i64 qb) := by rw [← hW0, World.cell?_alloc_new]; rfl
    have B0 : Hid (Below w.heap.size w W0) := by rw [← hW0]; exact (Below.refl _ _).alloc (Nat.le_refl _) _
    rw [hW0]
    clear hW0
    refine (C0.out _).mono ?_
    rintro e W ⟨rfl, h⟩
    have h := h.symm
    subst h
    go_wp2_with fail
    go_ret
    exact ⟨by rw [HR.out]; rfl, B0.out⟩
  | true =>
    cases t1 with
    | false =>
      go_enter Try.func101, Try.ntmps101
      go_wp2_with fail
      obtain ⟨W0, hW0⟩ : ∃ W0, w.alloc (.cells #[.int .i64 qa, .int .i64 qb] 69) = W0 := ⟨_, rfl⟩
      have d0 : W0.cell? ⟨w.heap.size, 0, none⟩ = some (.int .i64 qa) := by rw [← hW0, World.cell?_alloc_new]; rfl
      have d1 : W0.cell? ⟨w.heap.size, 1, none⟩ = some (.int .i64 qb) := by rw [← hW0, World.cell?_alloc_new]; rfl
      have B0 : Hid (Below w.heap.size w W0) := by rw [← hW0]; exact (Below.refl _ _).alloc (Nat.le_refl _) _
      rw [hW0]
      clear hW0
      refine (C0.out _).mono ?_
      rintro e W ⟨rfl, h⟩
      have h := h.symm
      subst h
      go_wp2_with fail
      refine (C1.out _).mono ?_
      rintro e W ⟨rfl, h⟩
      have h := h.symm
      subst h
      go_wp2_with fail
      go_ret
      exact ⟨by rw [HR.out]; rfl, B0.out⟩
    | true =>
      go_enter Try.func101, Try.ntmps101
      go_wp2_with fail
      obtain ⟨W0, hW0⟩ : ∃ W0, w.alloc (.cells #[.int .i64 qa, .int .i64 qb] 69) = W0 := ⟨_, rfl⟩
      have d0 : W0.cell? ⟨w.heap.size, 0, none⟩ = some (.int .i64 qa) := by rw [← hW0, World.cell?_alloc_new]; rfl
      have d1 : W0.cell? ⟨w.heap.size, 1, none⟩ = some (.int .i64 qb) := by rw [← hW0, World.cell?_alloc_new]; rfl
      have B0 : Hid (Below w.heap.size w W0) := by rw [← hW0]; exact (Below.refl _ _).alloc (Nat.le_refl _) _
      rw [hW0]
      clear hW0
      refine (C0.out _).mono ?_
      rintro e W ⟨rfl, h⟩
      have h := h.symm
      subst h
      go_wp2_with fail
      refine (C1.out _).mono ?_
      rintro e W ⟨rfl, h⟩
      have h := h.symm
      subst h
      go_wp2_with fail
      go_ret
      exact ⟨by rw [HR.out]; rfl, B0.out⟩
structure AllEndRel (n : Nat) (xs : List MEnd) (w : World) (v : Value) (wr : World) : Prop where
  ex : ∃ k : Nat, k ≤ n ∧ v = .int .i64 (k : Int) ∧ (∀ (j : Nat) y, xs[j]? = some y → j < k → rightEnd y = true) ∧ Below w.heap.size w wr
set_option maxRecDepth 100000 in
set_option maxHeartbeats 4000000 in
theorem allEnd_any (v : Value) (xs : List MEnd) (most : Int) (w : World) (h : Row w 2 REnd v xs) :
    Calls Try.prog 102 #[v, .int .i64 most, .func (.func 101) #[] #[]] w fun e w' => e = .returned (.bool (allB most rightEnd xs)) ∧ Below w.heap.size w w' := by
  obtain ⟨a, cap, rfl, hm⟩ := h.form
  obtain ⟨n, hn⟩ : ∃ n, xs.length = n := ⟨_, rfl⟩
  rw [hn] at h hm ⊢
  have HN := Lib.hid hn
  have H := Lib.hid h
  unfold rowMax at hm
  clear hn h
  by_cases hgt : most < (n : Int)
  · have HR : Hid (allB most rightEnd xs = false) := by unfold Hid allB; rw [HN.out, decide_eq_false (by omega)]; rfl
    go_enter Try.func102, Try.ntmps102
    go_wp2_with fail
    go_ret
    exact ⟨by rw [HR.out]; rfl, Below.refl _ _⟩
  · have hgt' : (n : Int) ≤ most := by omega
    have HR : Hid (allB most rightEnd xs = xs.all rightEnd) := by unfold Hid allB; rw [HN.out, decide_eq_true hgt']; rfl
    go_enter Try.func102, Try.ntmps102
    go_wp2_with fail
    go_loopw [15] (fun v wr => AllEndRel n xs w v wr) (fun v => fun _ => n - (intOf v).toNat)
    case atStart => exact ⟨⟨0, Nat.zero_le _, rfl, fun j y _ h => by omega, Below.refl _ _⟩⟩
    case round =>
      obtain ⟨⟨k, hk, rfl, hall, hb⟩⟩ := hrel
      have HK := Lib.hid hk
      have HA := Lib.hid hall
      have HB := Lib.hid hb
      clear hk hall hb
      by_cases hlt : k < n
      · have hkI : (k : Int) < (n : Int) := by omega
        have HX : Hid (k < n) := hlt
        obtain ⟨hnx, b, off, x, cs, rfl, hbl, hx, hR, _, hc⟩ := H.out.at_ k hlt
        clear hnx
        have HXS := Lib.hid hx
        obtain ⟨qa, qb⟩ := x
        obtain ⟨rfl, _⟩ := hR
        have d0 : wr.cell? ⟨b, off + k * 2, none⟩ = some (.int .i64 qa) := cell_later HB.out (hc 0 _ rfl)
        have d1 : wr.cell? ⟨b, off + k * 2 + 1, none⟩ = some (.int .i64 qb) := cell_later HB.out (hc 1 _ rfl)
        obtain ⟨t, ht⟩ : ∃ t, rightEnd ⟨qa, qb⟩ = t := ⟨_, rfl⟩
        have HT := Lib.hid ht
        have C : Hid (Calls Try.prog 101 #[.agg #[.int .i64 qa, .int .i64 qb]] (wr.alloc (.cells #[.int .i64 qa, .int .i64 qb] 69)) fun e w' => e = .returned (.bool t) ∧ Below (wr.alloc (.cells #[.int .i64 qa, .int .i64 qb] 69)).heap.size (wr.alloc (.cells #[.int .i64 qa, .int .i64 qb] 69)) w') := by
          unfold Hid
          rw [← ht]; exact rightEnd_core qa qb  _  
        clear hc ht hlt  
        go_wp2_with fail
        refine C.out.mono ?_
        rintro e W1 ⟨rfl, b1⟩
        have HB1 : Hid (Below w.heap.size w W1) := (HB.out.alloc HB.out.size _).trans (b1.mono (by have := HB.out.size; simp; omega))
        clear b1 C
        cases t with
        | true =>
          go_wp2_with fail
          go_roundw
          case rel =>
            have Q : AllEndRel n xs w (.int .i64 ((k : Int) + 1)) W1 := ⟨⟨k + 1, HX.out, by go_num, fun j y hy hj => by
              by_cases e : j = k
              · subst e
                have e2 := HXS.out.symm.trans hy
                injection e2 with e2
                rw [← e2]; exact HT.out
              · exact HA.out j y hy (by omega), HB1.out⟩⟩
            first | exact Q | ((repeat apply Exists.intro); exact ⟨Q, rfl⟩)
          case measure => have := HX.out; simp [intOf]; omega
        | false =>
          have HF : Hid (xs.all rightEnd = false) := all_false HXS.out HT.out
          go_wp2_with fail
          go_ret
          exact ⟨by rw [HR.out, HF.out]; rfl, HB1.out⟩
      · have hkI : ¬ (k : Int) < (n : Int) := by omega
        have HF : Hid (xs.all rightEnd = true) := all_true fun j y hy => HA.out j y hy (by have h1 := (List.getElem?_eq_some_iff.1 hy).1; have := HN.out; have := HK.out; omega)
        go_wp2_with fail
        go_ret
        exact ⟨by rw [HR.out, HF.out]; rfl, HB.out⟩
def rightLink (x : MLink) : Bool := nameB x.qa && inB x.qb 0 31 && inB x.qc 0 1048576
set_option maxRecDepth 100000 in
set_option maxHeartbeats 4000000 in
theorem rightLink_core (qa : ByteArray) (qb : Int) (qc : Int) (w : World) (hsqa : qa.size ≤ maxLen) :
    Calls Try.prog 36 #[.agg #[.string qa, .int .i64 qb, .int .i64 qc]] w fun e w' => e = .returned (.bool (rightLink ⟨qa, qb, qc⟩)) ∧ Below w.heap.size w w' := by
  obtain ⟨t0, h0⟩ : ∃ t : Bool, nameB qa = t := ⟨_, rfl⟩
  obtain ⟨t1, h1⟩ : ∃ t : Bool, inB qb 0 31 = t := ⟨_, rfl⟩
  obtain ⟨t2, h2⟩ : ∃ t : Bool, inB qc 0 1048576 = t := ⟨_, rfl⟩
  have HR : Hid (rightLink ⟨qa, qb, qc⟩ = (t0 && t1 && t2)) := by unfold Hid rightLink; dsimp only; rw [h0, h1, h2]
  have C0 : Hid (∀ W, Calls Try.prog 8 #[.string qa] W fun e w' => e = .returned (.bool t0) ∧ w' = W) := fun W => by rw [← h0]; exact name_any qa W hsqa
  have C1 : Hid (∀ W, Calls Try.prog 28 #[.int .i64 qb, .int .i64 0, .int .i64 31] W fun e w' => e = .returned (.bool t1) ∧ w' = W) := fun W => by rw [← h1]; exact within_any qb _ _ W
  have C2 : Hid (∀ W, Calls Try.prog 28 #[.int .i64 qc, .int .i64 0, .int .i64 1048576] W fun e w' => e = .returned (.bool t2) ∧ w' = W) := fun W => by rw [← h2]; exact within_any qc _ _ W
  clear h0 h1 h2 hsqa
  cases t0 with
  | false =>
    go_enter Try.func36, Try.ntmps36
    go_wp2_with fail
    obtain ⟨W0, hW0⟩ : ∃ W0, w.alloc (.cells #[.string qa, .int .i64 qb, .int .i64 qc] 76) = W0 := ⟨_, rfl⟩
    have d0 : W0.cell? ⟨w.heap.size, 0, none⟩ = some (.string qa) := by rw [← hW0, World.cell?_alloc_new]; rfl
    have d1 : W0.cell? ⟨w.heap.size, 1, none⟩ = some (.int .i64 qb) := by rw [← hW0, World.cell?_alloc_new]; rfl
    have d2 : W0.cell? ⟨w.heap.size, 2, none⟩ = some (.int .i64 qc) := by rw [← hW0, World.cell?_alloc_new]; rfl
    have B0 : Hid (Below w.heap.size w W0) := by rw [← hW0]; exact (Below.refl _ _).alloc (Nat.le_refl _) _
    rw [hW0]
    clear hW0
    refine (C0.out _).mono ?_
    rintro e W ⟨rfl, h⟩
    have h := h.symm
    subst h
    go_wp2_with fail
    go_ret
    exact ⟨by rw [HR.out]; rfl, B0.out⟩
  | true =>
    cases t1 with
    | false =>
      go_enter Try.func36, Try.ntmps36
      go_wp2_with fail
      obtain ⟨W0, hW0⟩ : ∃ W0, w.alloc (.cells #[.string qa, .int .i64 qb, .int .i64 qc] 76) = W0 := ⟨_, rfl⟩
      have d0 : W0.cell? ⟨w.heap.size, 0, none⟩ = some (.string qa) := by rw [← hW0, World.cell?_alloc_new]; rfl
      have d1 : W0.cell? ⟨w.heap.size, 1, none⟩ = some (.int .i64 qb) := by rw [← hW0, World.cell?_alloc_new]; rfl
      have d2 : W0.cell? ⟨w.heap.size, 2, none⟩ = some (.int .i64 qc) := by rw [← hW0, World.cell?_alloc_new]; rfl
      have B0 : Hid (Below w.heap.size w W0) := by rw [← hW0]; exact (Below.refl _ _).alloc (Nat.le_refl _) _
      rw [hW0]
      clear hW0
      refine (C0.out _).mono ?_
      rintro e W ⟨rfl, h⟩
      have h := h.symm
      subst h
      go_wp2_with fail
      refine (C1.out _).mono ?_
      rintro e W ⟨rfl, h⟩
      have h := h.symm
      subst h
      go_wp2_with fail
      go_ret
      exact ⟨by rw [HR.out]; rfl, B0.out⟩
    | true =>
      cases t2 with
      | false =>
        go_enter Try.func36, Try.ntmps36
        go_wp2_with fail
        obtain ⟨W0, hW0⟩ : ∃ W0, w.alloc (.cells #[.string qa, .int .i64 qb, .int .i64 qc] 76) = W0 := ⟨_, rfl⟩
        have d0 : W0.cell? ⟨w.heap.size, 0, none⟩ = some (.string qa) := by rw [← hW0, World.cell?_alloc_new]; rfl
        have d1 : W0.cell? ⟨w.heap.size, 1, none⟩ = some (.int .i64 qb) := by rw [← hW0, World.cell?_alloc_new]; rfl
        have d2 : W0.cell? ⟨w.heap.size, 2, none⟩ = some (.int .i64 qc) := by rw [← hW0, World.cell?_alloc_new]; rfl
        have B0 : Hid (Below w.heap.size w W0) := by rw [← hW0]; exact (Below.refl _ _).alloc (Nat.le_refl _) _
        rw [hW0]
        clear hW0
        refine (C0.out _).mono ?_
        rintro e W ⟨rfl, h⟩
        have h := h.symm
        subst h
        go_wp2_with fail
        refine (C1.out _).mono ?_
        rintro e W ⟨rfl, h⟩
        have h := h.symm
        subst h
        go_wp2_with fail
        refine (C2.out _).mono ?_
        rintro e W ⟨rfl, h⟩
        have h := h.symm
        subst h
        go_wp2_with fail
        go_ret
        exact ⟨by rw [HR.out]; rfl, B0.out⟩
      | true =>
        go_enter Try.func36, Try.ntmps36
        go_wp2_with fail
        obtain ⟨W0, hW0⟩ : ∃ W0, w.alloc (.cells #[.string qa, .int .i64 qb, .int .i64 qc] 76) = W0 := ⟨_, rfl⟩
        have d0 : W0.cell? ⟨w.heap.size, 0, none⟩ = some (.string qa) := by rw [← hW0, World.cell?_alloc_new]; rfl
        have d1 : W0.cell? ⟨w.heap.size, 1, none⟩ = some (.int .i64 qb) := by rw [← hW0, World.cell?_alloc_new]; rfl
        have d2 : W0.cell? ⟨w.heap.size, 2, none⟩ = some (.int .i64 qc) := by rw [← hW0, World.cell?_alloc_new]; rfl
        have B0 : Hid (Below w.heap.size w W0) := by rw [← hW0]; exact (Below.refl _ _).alloc (Nat.le_refl _) _
        rw [hW0]
        clear hW0
        refine (C0.out _).mono ?_
        rintro e W ⟨rfl, h⟩
        have h := h.symm
        subst h
        go_wp2_with fail
        refine (C1.out _).mono ?_
        rintro e W ⟨rfl, h⟩
        have h := h.symm
        subst h
        go_wp2_with fail
        refine (C2.out _).mono ?_
        rintro e W ⟨rfl, h⟩
        have h := h.symm
        subst h
        go_wp2_with fail
        go_ret
        exact ⟨by rw [HR.out]; rfl, B0.out⟩
structure AllLinkRel (n : Nat) (xs : List MLink) (w : World) (v : Value) (wr : World) : Prop where
  ex : ∃ k : Nat, k ≤ n ∧ v = .int .i64 (k : Int) ∧ (∀ (j : Nat) y, xs[j]? = some y → j < k → rightLink y = true) ∧ Below w.heap.size w wr
set_option maxRecDepth 100000 in
set_option maxHeartbeats 4000000 in
theorem allLink_any (v : Value) (xs : List MLink) (most : Int) (w : World) (h : Row w 3 RLink v xs) :
    Calls Try.prog 35 #[v, .int .i64 most, .func (.func 36) #[] #[]] w fun e w' => e = .returned (.bool (allB most rightLink xs)) ∧ Below w.heap.size w w' := by
  obtain ⟨a, cap, rfl, hm⟩ := h.form
  obtain ⟨n, hn⟩ : ∃ n, xs.length = n := ⟨_, rfl⟩
  rw [hn] at h hm ⊢
  have HN := Lib.hid hn
  have H := Lib.hid h
  unfold rowMax at hm
  clear hn h
  by_cases hgt : most < (n : Int)
  · have HR : Hid (allB most rightLink xs = false) := by unfold Hid allB; rw [HN.out, decide_eq_false (by omega)]; rfl
    go_enter Try.func35, Try.ntmps35
    go_wp2_with fail
    go_ret
    exact ⟨by rw [HR.out]; rfl, Below.refl _ _⟩
  · have hgt' : (n : Int) ≤ most := by omega
    have HR : Hid (allB most rightLink xs = xs.all rightLink) := by unfold Hid allB; rw [HN.out, decide_eq_true hgt']; rfl
    go_enter Try.func35, Try.ntmps35
    go_wp2_with fail
    go_loopw [15] (fun v wr => AllLinkRel n xs w v wr) (fun v => fun _ => n - (intOf v).toNat)
    case atStart => exact ⟨⟨0, Nat.zero_le _, rfl, fun j y _ h => by omega, Below.refl _ _⟩⟩
    case round =>
      obtain ⟨⟨k, hk, rfl, hall, hb⟩⟩ := hrel
      have HK := Lib.hid hk
      have HA := Lib.hid hall
      have HB := Lib.hid hb
      clear hk hall hb
      by_cases hlt : k < n
      · have hkI : (k : Int) < (n : Int) := by omega
        have HX : Hid (k < n) := hlt
        obtain ⟨hnx, b, off, x, cs, rfl, hbl, hx, hR, _, hc⟩ := H.out.at_ k hlt
        clear hnx
        have HXS := Lib.hid hx
        obtain ⟨qa, qb, qc⟩ := x
        obtain ⟨rfl, hsqa⟩ := hR
        have d0 : wr.cell? ⟨b, off + k * 3, none⟩ = some (.string qa) := cell_later HB.out (hc 0 _ rfl)
        have d1 : wr.cell? ⟨b, off + k * 3 + 1, none⟩ = some (.int .i64 qb) := cell_later HB.out (hc 1 _ rfl)
        have d2 : wr.cell? ⟨b, off + k * 3 + 2, none⟩ = some (.int .i64 qc) := cell_later HB.out (hc 2 _ rfl)
        obtain ⟨t, ht⟩ : ∃ t, rightLink ⟨qa, qb, qc⟩ = t := ⟨_, rfl⟩
        have HT := Lib.hid ht
        have C : Hid (Calls Try.prog 36 #[.agg #[.string qa, .int .i64 qb, .int .i64 qc]] (wr.alloc (.cells #[.string qa, .int .i64 qb, .int .i64 qc] 76)) fun e w' => e = .returned (.bool t) ∧ Below (wr.alloc (.cells #[.string qa, .int .i64 qb, .int .i64 qc] 76)).heap.size (wr.alloc (.cells #[.string qa, .int .i64 qb, .int .i64 qc] 76)) w') := by
          unfold Hid
          rw [← ht]; exact rightLink_core qa qb qc  _ hsqa 
        clear hc ht hlt hsqa 
        go_wp2_with fail
        refine C.out.mono ?_
        rintro e W1 ⟨rfl, b1⟩
        have HB1 : Hid (Below w.heap.size w W1) := (HB.out.alloc HB.out.size _).trans (b1.mono (by have := HB.out.size; simp; omega))
        clear b1 C
        cases t with
        | true =>
          go_wp2_with fail
          go_roundw
          case rel =>
            have Q : AllLinkRel n xs w (.int .i64 ((k : Int) + 1)) W1 := ⟨⟨k + 1, HX.out, by go_num, fun j y hy hj => by
              by_cases e : j = k
              · subst e
                have e2 := HXS.out.symm.trans hy
                injection e2 with e2
                rw [← e2]; exact HT.out
              · exact HA.out j y hy (by omega), HB1.out⟩⟩
            first | exact Q | ((repeat apply Exists.intro); exact ⟨Q, rfl⟩)
          case measure => have := HX.out; simp [intOf]; omega
        | false =>
          have HF : Hid (xs.all rightLink = false) := all_false HXS.out HT.out
          go_wp2_with fail
          go_ret
          exact ⟨by rw [HR.out, HF.out]; rfl, HB1.out⟩
      · have hkI : ¬ (k : Int) < (n : Int) := by omega
        have HF : Hid (xs.all rightLink = true) := all_true fun j y hy => HA.out j y hy (by have h1 := (List.getElem?_eq_some_iff.1 hy).1; have := HN.out; have := HK.out; omega)
        go_wp2_with fail
        go_ret
        exact ⟨by rw [HR.out, HF.out]; rfl, HB.out⟩
def rightBudget (x : MBudget) : Bool := inB x.qa 0 1048576 && inB x.qb 0 1048576
set_option maxRecDepth 100000 in
set_option maxHeartbeats 4000000 in
theorem rightBudget_core (qa : Int) (qb : Int) (w : World)  :
    Calls Try.prog 82 #[.agg #[.int .i64 qa, .int .i64 qb]] w fun e w' => e = .returned (.bool (rightBudget ⟨qa, qb⟩)) ∧ Below w.heap.size w w' := by
  obtain ⟨t0, h0⟩ : ∃ t : Bool, inB qa 0 1048576 = t := ⟨_, rfl⟩
  obtain ⟨t1, h1⟩ : ∃ t : Bool, inB qb 0 1048576 = t := ⟨_, rfl⟩
  have HR : Hid (rightBudget ⟨qa, qb⟩ = (t0 && t1)) := by unfold Hid rightBudget; dsimp only; rw [h0, h1]
  have C0 : Hid (∀ W, Calls Try.prog 28 #[.int .i64 qa, .int .i64 0, .int .i64 1048576] W fun e w' => e = .returned (.bool t0) ∧ w' = W) := fun W => by rw [← h0]; exact within_any qa _ _ W
  have C1 : Hid (∀ W, Calls Try.prog 28 #[.int .i64 qb, .int .i64 0, .int .i64 1048576] W fun e w' => e = .returned (.bool t1) ∧ w' = W) := fun W => by rw [← h1]; exact within_any qb _ _ W
  clear h0 h1
  cases t0 with
  | false =>
    go_enter Try.func82, Try.ntmps82
    go_wp2_with fail
    obtain ⟨W0, hW0⟩ : ∃ W0, w.alloc (.cells #[.int .i64 qa, .int .i64 qb] 50) = W0 := ⟨_, rfl⟩
    have d0 : W0.cell? ⟨w.heap.size, 0, none⟩ = some (.int .i64 qa) := by rw [← hW0, World.cell?_alloc_new]; rfl
    have d1 : W0.cell? ⟨w.heap.size, 1, none⟩ = some (.int .i64 qb) := by rw [← hW0, World.cell?_alloc_new]; rfl
    have B0 : Hid (Below w.heap.size w W0) := by rw [← hW0]; exact (Below.refl _ _).alloc (Nat.le_refl _) _
    rw [hW0]
    clear hW0
    refine (C0.out _).mono ?_
    rintro e W ⟨rfl, h⟩
    have h := h.symm
    subst h
    go_wp2_with fail
    go_ret
    exact ⟨by rw [HR.out]; rfl, B0.out⟩
  | true =>
    cases t1 with
    | false =>
      go_enter Try.func82, Try.ntmps82
      go_wp2_with fail
      obtain ⟨W0, hW0⟩ : ∃ W0, w.alloc (.cells #[.int .i64 qa, .int .i64 qb] 50) = W0 := ⟨_, rfl⟩
      have d0 : W0.cell? ⟨w.heap.size, 0, none⟩ = some (.int .i64 qa) := by rw [← hW0, World.cell?_alloc_new]; rfl
      have d1 : W0.cell? ⟨w.heap.size, 1, none⟩ = some (.int .i64 qb) := by rw [← hW0, World.cell?_alloc_new]; rfl
      have B0 : Hid (Below w.heap.size w W0) := by rw [← hW0]; exact (Below.refl _ _).alloc (Nat.le_refl _) _
      rw [hW0]
      clear hW0
      refine (C0.out _).mono ?_
      rintro e W ⟨rfl, h⟩
      have h := h.symm
      subst h
      go_wp2_with fail
      refine (C1.out _).mono ?_
      rintro e W ⟨rfl, h⟩
      have h := h.symm
      subst h
      go_wp2_with fail
      go_ret
      exact ⟨by rw [HR.out]; rfl, B0.out⟩
    | true =>
      go_enter Try.func82, Try.ntmps82
      go_wp2_with fail
      obtain ⟨W0, hW0⟩ : ∃ W0, w.alloc (.cells #[.int .i64 qa, .int .i64 qb] 50) = W0 := ⟨_, rfl⟩
      have d0 : W0.cell? ⟨w.heap.size, 0, none⟩ = some (.int .i64 qa) := by rw [← hW0, World.cell?_alloc_new]; rfl
      have d1 : W0.cell? ⟨w.heap.size, 1, none⟩ = some (.int .i64 qb) := by rw [← hW0, World.cell?_alloc_new]; rfl
      have B0 : Hid (Below w.heap.size w W0) := by rw [← hW0]; exact (Below.refl _ _).alloc (Nat.le_refl _) _
      rw [hW0]
      clear hW0
      refine (C0.out _).mono ?_
      rintro e W ⟨rfl, h⟩
      have h := h.symm
      subst h
      go_wp2_with fail
      refine (C1.out _).mono ?_
      rintro e W ⟨rfl, h⟩
      have h := h.symm
      subst h
      go_wp2_with fail
      go_ret
      exact ⟨by rw [HR.out]; rfl, B0.out⟩
end Go.Proofs.Ytchlgihanogeeaa
