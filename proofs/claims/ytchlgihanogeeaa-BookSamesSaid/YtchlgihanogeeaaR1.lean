/-
  What the program's Right answers of Area, Task, Lock, Sema. Each statement bears its own conditions.
-/
import Derived.Test.YtchlgihanogeeaaAllB
namespace Go.Proofs.Ytchlgihanogeeaa
open Go.RowKit
set_option linter.unusedVariables false
set_option linter.unusedSimpArgs false
def rightArea (x : MArea) : Bool := nameB x.qa && inB x.qb 0 4095 && inB x.qc 1 4096
set_option maxRecDepth 100000 in
set_option maxHeartbeats 4000000 in
theorem rightArea_core (qa : ByteArray) (qb : Int) (qc : Int) (qd : Bool) (qe : Bool) (qf : Bool) (w : World) (hsqa : qa.size ≤ maxLen) :
    Calls Try.prog 84 #[.agg #[.string qa, .int .i64 qb, .int .i64 qc, .bool qd, .bool qe, .bool qf]] w fun e w' => e = .returned (.bool (rightArea ⟨qa, qb, qc, qd, qe, qf⟩)) ∧ Below w.heap.size w w' := by
  obtain ⟨t0, h0⟩ : ∃ t : Bool, nameB qa = t := ⟨_, rfl⟩
  obtain ⟨t1, h1⟩ : ∃ t : Bool, inB qb 0 4095 = t := ⟨_, rfl⟩
  obtain ⟨t2, h2⟩ : ∃ t : Bool, inB qc 1 4096 = t := ⟨_, rfl⟩
  have HR : Hid (rightArea ⟨qa, qb, qc, qd, qe, qf⟩ = (t0 && t1 && t2)) := by unfold Hid rightArea; dsimp only; rw [h0, h1, h2]
  have C0 : Hid (∀ W, Calls Try.prog 8 #[.string qa] W fun e w' => e = .returned (.bool t0) ∧ w' = W) := fun W => by rw [← h0]; exact name_any qa W hsqa
  have C1 : Hid (∀ W, Calls Try.prog 28 #[.int .i64 qb, .int .i64 0, .int .i64 4095] W fun e w' => e = .returned (.bool t1) ∧ w' = W) := fun W => by rw [← h1]; exact within_any qb _ _ W
  have C2 : Hid (∀ W, Calls Try.prog 28 #[.int .i64 qc, .int .i64 1, .int .i64 4096] W fun e w' => e = .returned (.bool t2) ∧ w' = W) := fun W => by rw [← h2]; exact within_any qc _ _ W
  clear h0 h1 h2 hsqa
  cases t0 with
  | false =>
    go_enter Try.func84, Try.ntmps84
    go_wp2_with fail
    obtain ⟨W0, hW0⟩ : ∃ W0, w.alloc (.cells #[.string qa, .int .i64 qb, .int .i64 qc, .bool qd, .bool qe, .bool qf] 107) = W0 := ⟨_, rfl⟩
    have d0 : W0.cell? ⟨w.heap.size, 0, none⟩ = some (.string qa) := by rw [← hW0, World.cell?_alloc_new]; rfl
    have d1 : W0.cell? ⟨w.heap.size, 1, none⟩ = some (.int .i64 qb) := by rw [← hW0, World.cell?_alloc_new]; rfl
    have d2 : W0.cell? ⟨w.heap.size, 2, none⟩ = some (.int .i64 qc) := by rw [← hW0, World.cell?_alloc_new]; rfl
    have d3 : W0.cell? ⟨w.heap.size, 3, none⟩ = some (.bool qd) := by rw [← hW0, World.cell?_alloc_new]; rfl
    have d4 : W0.cell? ⟨w.heap.size, 4, none⟩ = some (.bool qe) := by rw [← hW0, World.cell?_alloc_new]; rfl
    have d5 : W0.cell? ⟨w.heap.size, 5, none⟩ = some (.bool qf) := by rw [← hW0, World.cell?_alloc_new]; rfl
    have B0 : Hid (Below w.heap.size w W0) := by rw [← hW0]; exact (Below.refl _ _).alloc (Nat.le_refl _) _
    rw [hW0]
    clear hW0
    refine (C0.out _).mono ?_
    rintro e W ⟨rfl, h⟩
    have h := h.symm
    subst h
    go_wp2_with fail
    go_ret
    exact ⟨by rw [HR.out]; rfl, B0.out⟩
  | true =>
    cases t1 with
    | false =>
      go_enter Try.func84, Try.ntmps84
      go_wp2_with fail
      obtain ⟨W0, hW0⟩ : ∃ W0, w.alloc (.cells #[.string qa, .int .i64 qb, .int .i64 qc, .bool qd, .bool qe, .bool qf] 107) = W0 := ⟨_, rfl⟩
      have d0 : W0.cell? ⟨w.heap.size, 0, none⟩ = some (.string qa) := by rw [← hW0, World.cell?_alloc_new]; rfl
      have d1 : W0.cell? ⟨w.heap.size, 1, none⟩ = some (.int .i64 qb) := by rw [← hW0, World.cell?_alloc_new]; rfl
      have d2 : W0.cell? ⟨w.heap.size, 2, none⟩ = some (.int .i64 qc) := by rw [← hW0, World.cell?_alloc_new]; rfl
      have d3 : W0.cell? ⟨w.heap.size, 3, none⟩ = some (.bool qd) := by rw [← hW0, World.cell?_alloc_new]; rfl
      have d4 : W0.cell? ⟨w.heap.size, 4, none⟩ = some (.bool qe) := by rw [← hW0, World.cell?_alloc_new]; rfl
      have d5 : W0.cell? ⟨w.heap.size, 5, none⟩ = some (.bool qf) := by rw [← hW0, World.cell?_alloc_new]; rfl
      have B0 : Hid (Below w.heap.size w W0) := by rw [← hW0]; exact (Below.refl _ _).alloc (Nat.le_refl _) _
      rw [hW0]
      clear hW0
      refine (C0.out _).mono ?_
      rintro e W ⟨rfl, h⟩
      have h := h.symm
      subst h
      go_wp2_with fail
      refine (C1.out _).mono ?_
      rintro e W ⟨rfl, h⟩
      have h := h.symm
      subst h
      go_wp2_with fail
      go_ret
      exact ⟨by rw [HR.out]; rfl, B0.out⟩
    | true =>
      cases t2 with
      | false =>
        go_enter Try.func84, Try.ntmps84
        go_wp2_with fail
        obtain ⟨W0, hW0⟩ : ∃ W0, w.alloc (.cells #[.string qa, .int .i64 qb, .int .i64 qc, .bool qd, .bool qe, .bool qf] 107) = W0 := ⟨_, rfl⟩
        have d0 : W0.cell? ⟨w.heap.size, 0, none⟩ = some (.string qa) := by rw [← hW0, World.cell?_alloc_new]; rfl
        have d1 : W0.cell? ⟨w.heap.size, 1, none⟩ = some (.int .i64 qb) := by rw [← hW0, World.cell?_alloc_new]; rfl
        have d2 : W0.cell? ⟨w.heap.size, 2, none⟩ = some (.int .i64 qc) := by rw [← hW0, World.cell?_alloc_new]; rfl
        have d3 : W0.cell? ⟨w.heap.size, 3, none⟩ = some (.bool qd) := by rw [← hW0, World.cell?_alloc_new]; rfl
        have d4 : W0.cell? ⟨w.heap.size, 4, none⟩ = some (.bool qe) := by rw [← hW0, World.cell?_alloc_new]; rfl
        have d5 : W0.cell? ⟨w.heap.size, 5, none⟩ = some (.bool qf) := by rw [← hW0, World.cell?_alloc_new]; rfl
        have B0 : Hid (Below w.heap.size w W0) := by rw [← hW0]; exact (Below.refl _ _).alloc (Nat.le_refl _) _
        rw [hW0]
        clear hW0
        refine (C0.out _).mono ?_
        rintro e W ⟨rfl, h⟩
        have h := h.symm
        subst h
        go_wp2_with fail
        refine (C1.out _).mono ?_
        rintro e W ⟨rfl, h⟩
        have h := h.symm
        subst h
        go_wp2_with fail
        refine (C2.out _).mono ?_
        rintro e W ⟨rfl, h⟩
        have h := h.symm
        subst h
        go_wp2_with fail
        go_ret
        exact ⟨by rw [HR.out]; rfl, B0.out⟩
      | true =>
        go_enter Try.func84, Try.ntmps84
        go_wp2_with fail
        obtain ⟨W0, hW0⟩ : ∃ W0, w.alloc (.cells #[.string qa, .int .i64 qb, .int .i64 qc, .bool qd, .bool qe, .bool qf] 107) = W0 := ⟨_, rfl⟩
        have d0 : W0.cell? ⟨w.heap.size, 0, none⟩ = some (.string qa) := by rw [← hW0, World.cell?_alloc_new]; rfl
        have d1 : W0.cell? ⟨w.heap.size, 1, none⟩ = some (.int .i64 qb) := by rw [← hW0, World.cell?_alloc_new]; rfl
        have d2 : W0.cell? ⟨w.heap.size, 2, none⟩ = some (.int .i64 qc) := by rw [← hW0, World.cell?_alloc_new]; rfl
        have d3 : W0.cell? ⟨w.heap.size, 3, none⟩ = some (.bool qd) := by rw [← hW0, World.cell?_alloc_new]; rfl
        have d4 : W0.cell? ⟨w.heap.size, 4, none⟩ = some (.bool qe) := by rw [← hW0, World.cell?_alloc_new]; rfl
        have d5 : W0.cell? ⟨w.heap.size, 5, none⟩ = some (.bool qf) := by rw [← hW0, World.cell?_alloc_new]; rfl
        have B0 : Hid (Below w.heap.size w W0) := by rw [← hW0]; exact (Below.refl _ _).alloc (Nat.le_refl _) _
        rw [hW0]
        clear hW0
        refine (C0.out _).mono ?_
        rintro e W ⟨rfl, h⟩
        have h := h.symm
        subst h
        go_wp2_with fail
        refine (C1.out _).mono ?_
        rintro e W ⟨rfl, h⟩
        have h := h.symm
        subst h
        go_wp2_with fail
        refine (C2.out _).mono ?_
        rintro e W ⟨rfl, h⟩
        have h := h.symm
        subst h
        go_wp2_with fail
        go_ret
        exact ⟨by rw [HR.out]; rfl, B0.out⟩
structure AllAreaRel (n : Nat) (xs : List MArea) (w : World) (v : Value) (wr : World) : Prop where
  ex : ∃ k : Nat, k ≤ n ∧ v = .int .i64 (k : Int) ∧ (∀ (j : Nat) y, xs[j]? = some y → j < k → rightArea y = true) ∧ Below w.heap.size w wr
set_option maxRecDepth 100000 in
set_option maxHeartbeats 4000000 in
theorem allArea_any (v : Value) (xs : List MArea) (most : Int) (w : World) (h : Row w 6 RArea v xs) :
    Calls Try.prog 83 #[v, .int .i64 most, .func (.func 84) #[] #[]] w fun e w' => e = .returned (.bool (allB most rightArea xs)) ∧ Below w.heap.size w w' := by
  obtain ⟨a, cap, rfl, hm⟩ := h.form
  obtain ⟨n, hn⟩ : ∃ n, xs.length = n := ⟨_, rfl⟩
  rw [hn] at h hm ⊢
  have HN := Lib.hid hn
  have H := Lib.hid h
  unfold rowMax at hm
  clear hn h
  by_cases hgt : most < (n : Int)
  · have HR : Hid (allB most rightArea xs = false) := by unfold Hid allB; rw [HN.out, decide_eq_false (by omega)]; rfl
    go_enter Try.func83, Try.ntmps83
    go_wp2_with fail
    go_ret
    exact ⟨by rw [HR.out]; rfl, Below.refl _ _⟩
  · have hgt' : (n : Int) ≤ most := by omega
    have HR : Hid (allB most rightArea xs = xs.all rightArea) := by unfold Hid allB; rw [HN.out, decide_eq_true hgt']; rfl
    go_enter Try.func83, Try.ntmps83
    go_wp2_with fail
    go_loopw [15] (fun v wr => AllAreaRel n xs w v wr) (fun v => fun _ => n - (intOf v).toNat)
    case atStart => exact ⟨⟨0, Nat.zero_le _, rfl, fun j y _ h => by omega, Below.refl _ _⟩⟩
    case round =>
      obtain ⟨⟨k, hk, rfl, hall, hb⟩⟩ := hrel
      have HK := Lib.hid hk
      have HA := Lib.hid hall
      have HB := Lib.hid hb
      clear hk hall hb
      by_cases hlt : k < n
      · have hkI : (k : Int) < (n : Int) := by omega
        have HX : Hid (k < n) := hlt
        obtain ⟨hnx, b, off, x, cs, rfl, hbl, hx, hR, _, hc⟩ := H.out.at_ k hlt
        clear hnx
        have HXS := Lib.hid hx
        obtain ⟨qa, qb, qc, qd, qe, qf⟩ := x
        obtain ⟨rfl, hsqa⟩ := hR
        have d0 : wr.cell? ⟨b, off + k * 6, none⟩ = some (.string qa) := cell_later HB.out (hc 0 _ rfl)
        have d1 : wr.cell? ⟨b, off + k * 6 + 1, none⟩ = some (.int .i64 qb) := cell_later HB.out (hc 1 _ rfl)
        have d2 : wr.cell? ⟨b, off + k * 6 + 2, none⟩ = some (.int .i64 qc) := cell_later HB.out (hc 2 _ rfl)
        have d3 : wr.cell? ⟨b, off + k * 6 + 3, none⟩ = some (.bool qd) := cell_later HB.out (hc 3 _ rfl)
        have d4 : wr.cell? ⟨b, off + k * 6 + 4, none⟩ = some (.bool qe) := cell_later HB.out (hc 4 _ rfl)
        have d5 : wr.cell? ⟨b, off + k * 6 + 5, none⟩ = some (.bool qf) := cell_later HB.out (hc 5 _ rfl)
        obtain ⟨t, ht⟩ : ∃ t, rightArea ⟨qa, qb, qc, qd, qe, qf⟩ = t := ⟨_, rfl⟩
        have HT := Lib.hid ht
        have C : Hid (Calls Try.prog 84 #[.agg #[.string qa, .int .i64 qb, .int .i64 qc, .bool qd, .bool qe, .bool qf]] (wr.alloc (.cells #[.string qa, .int .i64 qb, .int .i64 qc, .bool qd, .bool qe, .bool qf] 107)) fun e w' => e = .returned (.bool t) ∧ Below (wr.alloc (.cells #[.string qa, .int .i64 qb, .int .i64 qc, .bool qd, .bool qe, .bool qf] 107)).heap.size (wr.alloc (.cells #[.string qa, .int .i64 qb, .int .i64 qc, .bool qd, .bool qe, .bool qf] 107)) w') := by
          unfold Hid
          rw [← ht]; exact rightArea_core qa qb qc qd qe qf  _ hsqa 
        clear hc ht hlt hsqa 
        go_wp2_with fail
        refine C.out.mono ?_
        rintro e W1 ⟨rfl, b1⟩
        have HB1 : Hid (Below w.heap.size w W1) := (HB.out.alloc HB.out.size _).trans (b1.mono (by have := HB.out.size; simp; omega))
        clear b1 C
        cases t with
        | true =>
          go_wp2_with fail
          go_roundw
          case rel =>
            have Q : AllAreaRel n xs w (.int .i64 ((k : Int) + 1)) W1 := ⟨⟨k + 1, HX.out, by go_num, fun j y hy hj => by
              by_cases e : j = k
              · subst e
                have e2 := HXS.out.symm.trans hy
                injection e2 with e2
                rw [← e2]; exact HT.out
              · exact HA.out j y hy (by omega), HB1.out⟩⟩
            first | exact Q | ((repeat apply Exists.intro); exact ⟨Q, rfl⟩)
          case measure => have := HX.out; simp [intOf]; omega
        | false =>
          have HF : Hid (xs.all rightArea = false) := all_false HXS.out HT.out
          go_wp2_with fail
          go_ret
          exact ⟨by rw [HR.out, HF.out]; rfl, HB1.out⟩
      · have hkI : ¬ (k : Int) < (n : Int) := by omega
        have HF : Hid (xs.all rightArea = true) := all_true fun j y hy => HA.out j y hy (by have h1 := (List.getElem?_eq_some_iff.1 hy).1; have := HN.out; have := HK.out; omega)
        go_wp2_with fail
        go_ret
        exact ⟨by rw [HR.out, HF.out]; rfl, HB.out⟩
def rightTask (x : MTask) : Bool := nameB x.qa && inB x.qb 0 4095 && inB x.qc 0 4096 && inB x.qd 1 63 && inB x.qe 0 1048576 && inB x.qf 0 1048576 && inB x.qg 0 1048576 && inB x.qh 0 1048576
set_option maxRecDepth 100000 in
set_option maxHeartbeats 4000000 in
theorem rightTask_core (qa : ByteArray) (qb : Int) (qc : Int) (qd : Int) (qe : Int) (qf : Int) (qg : Int) (qh : Int) (w : World) (hsqa : qa.size ≤ maxLen) :
    Calls Try.prog 86 #[.agg #[.string qa, .int .i64 qb, .int .i64 qc, .int .i64 qd, .int .i64 qe, .int .i64 qf, .int .i64 qg, .int .i64 qh]] w fun e w' => e = .returned (.bool (rightTask ⟨qa, qb, qc, qd, qe, qf, qg, qh⟩)) ∧ Below w.heap.size w w' := by
  obtain ⟨t0, h0⟩ : ∃ t : Bool, nameB qa = t := ⟨_, rfl⟩
  obtain ⟨t1, h1⟩ : ∃ t : Bool, inB qb 0 4095 = t := ⟨_, rfl⟩
  obtain ⟨t2, h2⟩ : ∃ t : Bool, inB qc 0 4096 = t := ⟨_, rfl⟩
  obtain ⟨t3, h3⟩ : ∃ t : Bool, inB qd 1 63 = t := ⟨_, rfl⟩
  obtain ⟨t4, h4⟩ : ∃ t : Bool, inB qe 0 1048576 = t := ⟨_, rfl⟩
  obtain ⟨t5, h5⟩ : ∃ t : Bool, inB qf 0 1048576 = t := ⟨_, rfl⟩
  obtain ⟨t6, h6⟩ : ∃ t : Bool, inB qg 0 1048576 = t := ⟨_, rfl⟩
  obtain ⟨t7, h7⟩ : ∃ t : Bool, inB qh 0 1048576 = t := ⟨_, rfl⟩
  have HR : Hid (rightTask ⟨qa, qb, qc, qd, qe, qf, qg, qh⟩ = (t0 && t1 && t2 && t3 && t4 && t5 && t6 && t7)) := by unfold Hid rightTask; dsimp only; rw [h0, h1, h2, h3, h4, h5, h6, h7]
  have C0 : Hid (∀ W, Calls Try.prog 8 #[.string qa] W fun e w' => e = .returned (.bool t0) ∧ w' = W) := fun W => by rw [← h0]; exact name_any qa W hsqa
  have C1 : Hid (∀ W, Calls Try.prog 28 #[.int .i64 qb, .int .i64 0, .int .i64 4095] W fun e w' => e = .returned (.bool t1) ∧ w' = W) := fun W => by rw [← h1]; exact within_any qb _ _ W
  have C2 : Hid (∀ W, Calls Try.prog 28 #[.int .i64 qc, .int .i64 0, .int .i64 4096] W fun e w' => e = .returned (.bool t2) ∧ w' = W) := fun W => by rw [← h2]; exact within_any qc _ _ W
  have C3 : Hid (∀ W, Calls Try.prog 28 #[.int .i64 qd, .int .i64 1, .int .i64 63] W fun e w' => e = .returned (.bool t3) ∧ w' = W) := fun W => by rw [← h3]; exact within_any qd _ _ W
  have C4 : Hid (∀ W, Calls Try.prog 28 #[.int .i64 qe, .int .i64 0, .int .i64 1048576] W fun e w' => e = .returned (.bool t4) ∧ w' = W) := fun W => by rw [← h4]; exact within_any qe _ _ W
  have C5 : Hid (∀ W, Calls Try.prog 28 #[.int .i64 qf, .int .i64 0, .int .i64 1048576] W fun e w' => e = .returned (.bool t5) ∧ w' = W) := fun W => by rw [← h5]; exact within_any qf _ _ W
  have C6 : Hid (∀ W, Calls Try.prog 28 #[.int .i64 qg, .int .i64 0, .int .i64 1048576] W fun e w' => e = .returned (.bool t6) ∧ w' = W) := fun W => by rw [← h6]; exact within_any qg _ _ W
  have C7 : Hid (∀ W, Calls Try.prog 28 #[.int .i64 qh, .int .i64 0, .int .i64 1048576] W fun e w' => e = .returned (.bool t7) ∧ w' = W) := fun W => by rw [← h7]; exact within_any qh _ _ W
  clear h0 h1 h2 h3 h4 h5 h6 h7 hsqa
  cases t0 with
  | false =>
    go_enter Try.func86, Try.ntmps86
    go_wp2_with fail
    obtain ⟨W0, hW0⟩ : ∃ W0, w.alloc (.cells #[.string qa, .int .i64 qb, .int .i64 qc, .int .i64 qd, .int .i64 qe, .int .i64 qf, .int .i64 qg, .int .i64 qh] 109) = W0 := ⟨_, rfl⟩
    have d0 : W0.cell? ⟨w.heap.size, 0, none⟩ = some (.string qa) := by rw [← hW0, World.cell?_alloc_new]; rfl
    have d1 : W0.cell? ⟨w.heap.size, 1, none⟩ = some (.int .i64 qb) := by rw [← hW0, World.cell?_alloc_new]; rfl
    have d2 : W0.cell? ⟨w.heap.size, 2, none⟩ = some (.int .i64 qc) := by rw [← hW0, World.cell?_alloc_new]; rfl
    have d3 : W0.cell? ⟨w.heap.size, 3, none⟩ = some (.int .i64 qd) := by rw [← hW0, World.cell?_alloc_new]; rfl
    have d4 : W0.cell? ⟨w.heap.size, 4, none⟩ = some (.int .i64 qe) := by rw [← hW0, World.cell?_alloc_new]; rfl
    have d5 : W0.cell? ⟨w.heap.size, 5, none⟩ = some (.int .i64 qf) := by rw [← hW0, World.cell?_alloc_new]; rfl
    have d6 : W0.cell? ⟨w.heap.size, 6, none⟩ = some (.int .i64 qg) := by rw [← hW0, World.cell?_alloc_new]; rfl
    have d7 : W0.cell? ⟨w.heap.size, 7, none⟩ = some (.int .i64 qh) := by rw [← hW0, World.cell?_alloc_new]; rfl
    have B0 : Hid (Below w.heap.size w W0) := by rw [← hW0]; exact (Below.refl _ _).alloc (Nat.le_refl _) _
    rw [hW0]
    clear hW0
    refine (C0.out _).mono ?_
    rintro e W ⟨rfl, h⟩
    have h := h.symm
    subst h
    go_wp2_with fail
    go_ret
    exact ⟨by rw [HR.out]; rfl, B0.out⟩
  | true =>
    cases t1 with
    | false =>
      go_enter Try.func86, Try.ntmps86
      go_wp2_with fail
      obtain ⟨W0, hW0⟩ : ∃ W0, w.alloc (.cells #[.string qa, .int .i64 qb, .int .i64 qc, .int .i64 qd, .int .i64 qe, .int .i64 qf, .int .i64 qg, .int .i64 qh] 109) = W0 := ⟨_, rfl⟩
      have d0 : W0.cell? ⟨w.heap.size, 0, none⟩ = some (.string qa) := by rw [← hW0, World.cell?_alloc_new]; rfl
      have d1 : W0.cell? ⟨w.heap.size, 1, none⟩ = some (.int .i64 qb) := by rw [← hW0, World.cell?_alloc_new]; rfl
      have d2 : W0.cell? ⟨w.heap.size, 2, none⟩ = some (.int .i64 qc) := by rw [← hW0, World.cell?_alloc_new]; rfl
      have d3 : W0.cell? ⟨w.heap.size, 3, none⟩ = some (.int .i64 qd) := by rw [← hW0, World.cell?_alloc_new]; rfl
      have d4 : W0.cell? ⟨w.heap.size, 4, none⟩ = some (.int .i64 qe) := by rw [← hW0, World.cell?_alloc_new]; rfl
      have d5 : W0.cell? ⟨w.heap.size, 5, none⟩ = some (.int .i64 qf) := by rw [← hW0, World.cell?_alloc_new]; rfl
      have d6 : W0.cell? ⟨w.heap.size, 6, none⟩ = some (.int .i64 qg) := by rw [← hW0, World.cell?_alloc_new]; rfl
      have d7 : W0.cell? ⟨w.heap.size, 7, none⟩ = some (.int .i64 qh) := by rw [← hW0, World.cell?_alloc_new]; rfl
      have B0 : Hid (Below w.heap.size w W0) := by rw [← hW0]; exact (Below.refl _ _).alloc (Nat.le_refl _) _
      rw [hW0]
      clear hW0
      refine (C0.out _).mono ?_
      rintro e W ⟨rfl, h⟩
      have h := h.symm
      subst h
      go_wp2_with fail
      refine (C1.out _).mono ?_
      rintro e W ⟨rfl, h⟩
      have h := h.symm
      subst h
      go_wp2_with fail
      go_ret
      exact ⟨by rw [HR.out]; rfl, B0.out⟩
    | true =>
      cases t2 with
      | false =>
        go_enter Try.func86, Try.ntmps86
        go_wp2_with fail
        obtain ⟨W0, hW0⟩ : ∃ W0, w.alloc (.cells #[.string qa, .int .i64 qb, .int .i64 qc, .int .i64 qd, .int .i64 qe, .int .i64 qf, .int .i64 qg, .int .i64 qh] 109) = W0 := ⟨_, rfl⟩
        have d0 : W0.cell? ⟨w.heap.size, 0, none⟩ = some (.string qa) := by rw [← hW0, World.cell?_alloc_new]; rfl
        have d1 : W0.cell? ⟨w.heap.size, 1, none⟩ = some (.int .i64 qb) := by rw [← hW0, World.cell?_alloc_new]; rfl
        have d2 : W0.cell? ⟨w.heap.size, 2, none⟩ = some (.int .i64 qc) := by rw [← hW0, World.cell?_alloc_new]; rfl
        have d3 : W0.cell? ⟨w.heap.size, 3, none⟩ = some (.int .i64 qd) := by rw [← hW0, World.cell?_alloc_new]; rfl
        have d4 : W0.cell? ⟨w.heap.size, 4, none⟩ = some (.int .i64 qe) := by rw [← hW0, World.cell?_alloc_new]; rfl
        have d5 : W0.cell? ⟨w.heap.size, 5, none⟩ = some (.int .i64 qf) := by rw [← hW0, World.cell?_alloc_new]; rfl
        have d6 : W0.cell? ⟨w.heap.size, 6, none⟩ = some (.int .i64 qg) := by rw [← hW0, World.cell?_alloc_new]; rfl
        have d7 : W0.cell? ⟨w.heap.size, 7, none⟩ = some (.int .i64 qh) := by rw [← hW0, World.cell?_alloc_new]; rfl
        have B0 : Hid (Below w.heap.size w W0) := by rw [← hW0]; exact (Below.refl _ _).alloc (Nat.le_refl _) _
        rw [hW0]
        clear hW0
        refine (C0.out _).mono ?_
        rintro e W ⟨rfl, h⟩
        have h := h.symm
        subst h
        go_wp2_with fail
        refine (C1.out _).mono ?_
        rintro e W ⟨rfl, h⟩
        have h := h.symm
        subst h
        go_wp2_with fail
        refine (C2.out _).mono ?_
        rintro e W ⟨rfl, h⟩
        have h := h.symm
        subst h
        go_wp2_with fail
        go_ret
        exact ⟨by rw [HR.out]; rfl, B0.out⟩
      | true =>
        cases t3 with
        | false =>
          go_enter Try.func86, Try.ntmps86
          go_wp2_with fail
          obtain ⟨W0, hW0⟩ : ∃ W0, w.alloc (.cells #[.string qa, .int .i64 qb, .int .i64 qc, .int .i64 qd, .int .i64 qe, .int .i64 qf, .int .i64 qg, .int .i64 qh] 109) = W0 := ⟨_, rfl⟩
          have d0 : W0.cell? ⟨w.heap.size, 0, none⟩ = some (.string qa) := by rw [← hW0, World.cell?_alloc_new]; rfl
          have d1 : W0.cell? ⟨w.heap.size, 1, none⟩ = some (.int .i64 qb) := by rw [← hW0, World.cell?_alloc_new]; rfl
          have d2 : W0.cell? ⟨w.heap.size, 2, none⟩ = some (.int .i64 qc) := by rw [← hW0, World.cell?_alloc_new]; rfl
          have d3 : W0.cell? ⟨w.heap.size, 3, none⟩ = some (.int .i64 qd) := by rw [← hW0, World.cell?_alloc_new]; rfl
          have d4 : W0.cell? ⟨w.heap.size, 4, none⟩ = some (.int .i64 qe) := by rw [← hW0, World.cell?_alloc_new]; rfl
          have d5 : W0.cell? ⟨w.heap.size, 5, none⟩ = some (.int .i64 qf) := by rw [← hW0, World.cell?_alloc_new]; rfl
          have d6 : W0.cell? ⟨w.heap.size, 6, none⟩ = some (.int .i64 qg) := by rw [← hW0, World.cell?_alloc_new]; rfl
          have d7 : W0.cell? ⟨w.heap.size, 7, none⟩ = some (.int .i64 qh) := by rw [← hW0, World.cell?_alloc_new]; rfl
          have B0 : Hid (Below w.heap.size w W0) := by rw [← hW0]; exact (Below.refl _ _).alloc (Nat.le_refl _) _
          rw [hW0]
          clear hW0
          refine (C0.out _).mono ?_
          rintro e W ⟨rfl, h⟩
          have h := h.symm
          subst h
          go_wp2_with fail
          refine (C1.out _).mono ?_
          rintro e W ⟨rfl, h⟩
          have h := h.symm
          subst h
          go_wp2_with fail
          refine (C2.out _).mono ?_
          rintro e W ⟨rfl, h⟩
          have h := h.symm
          subst h
          go_wp2_with fail
          refine (C3.out _).mono ?_
          rintro e W ⟨rfl, h⟩
          have h := h.symm
          subst h
          go_wp2_with fail
          go_ret
          exact ⟨by rw [HR.out]; rfl, B0.out⟩
        | true =>
          cases t4 with
          | false =>
            go_enter Try.func86, Try.ntmps86
            go_wp2_with fail
            obtain ⟨W0, hW0⟩ : ∃ W0, w.alloc (.cells #[.string qa, .int .i64 qb, .int .i64 qc, .int .i64 qd, .int .i64 qe, .int .i64 qf, .int .i64 qg, .int .i64 qh] 109) = W0 := ⟨_, rfl⟩
            have d0 : W0.cell? ⟨w.heap.size, 0, none⟩ = some (.string qa) := by rw [← hW0, World.cell?_alloc_new]; rfl
            have d1 : W0.cell? ⟨w.heap.size, 1, none⟩ = some (.int .i64 qb) := by rw [← hW0, World.cell?_alloc_new]; rfl
            have d2 : W0.cell? ⟨w.heap.size, 2, none⟩ = some (.int .i64 qc) := by rw [← hW0, World.cell?_alloc_new]; rfl
            have d3 : W0.cell? ⟨w.heap.size, 3, none⟩ = some (.int .i64 qd) := by rw [← hW0, World.cell?_alloc_new]; rfl
            have d4 : W0.cell? ⟨w.heap.size, 4, none⟩ = some (.int .i64 qe) := by rw [← hW0, World.cell?_alloc_new]; rfl
            have d5 : W0.cell? ⟨w.heap.size, 5, none⟩ = some (.int .i64 qf) := by rw [← hW0, World.cell?_alloc_new]; rfl
            have d6 : W0.cell? ⟨w.heap.size, 6, none⟩ = some (.int .i64 qg) := by rw [← hW0, World.cell?_alloc_new]; rfl
            have d7 : W0.cell? ⟨w.heap.size, 7, none⟩ = some (.int .i64 qh) := by rw [← hW0, World.cell?_alloc_new]; rfl
            have B0 : Hid (Below w.heap.size w W0) := by rw [← hW0]; exact (Below.refl _ _).alloc (Nat.le_refl _) _
            rw [hW0]
            clear hW0
            refine (C0.out _).mono ?_
            rintro e W ⟨rfl, h⟩
            have h := h.symm
            subst h
            go_wp2_with fail
            refine (C1.out _).mono ?_
            rintro e W ⟨rfl, h⟩
            have h := h.symm
            subst h
            go_wp2_with fail
            refine (C2.out _).mono ?_
            rintro e W ⟨rfl, h⟩
            have h := h.symm
            subst h
            go_wp2_with fail
            refine (C3.out _).mono ?_
            rintro e W ⟨rfl, h⟩
            have h := h.symm
            subst h
            go_wp2_with fail
            refine (C4.out _).mono ?_
            rintro e W ⟨rfl, h⟩
            have h := h.symm
            subst h
            go_wp2_with fail
            go_ret
            exact ⟨by rw [HR.out]; rfl, B0.out⟩
          | true =>
            cases t5 with
            | false =>
              go_enter Try.func86, Try.ntmps86
              go_wp2_with fail
              obtain ⟨W0, hW0⟩ : ∃ W0, w.alloc (.cells #[.string qa, .int .i64 qb, .int .i64 qc, .int .i64 qd, .int .i64 qe, .int .i64 qf, .int .i64 qg, .int .i64 qh] 109) = W0 := ⟨_, rfl⟩
              have d0 : W0.cell? ⟨w.heap.size, 0, none⟩ = some (.string qa) := by rw [← hW0, World.cell?_alloc_new]; rfl
              have d1 : W0.cell? ⟨w.heap.size, 1, none⟩ = some (.int .i64 qb) := by rw [← hW0, World.cell?_alloc_new]; rfl
              have d2 : W0.cell? ⟨w.heap.size, 2, none⟩ = some (.int .i64 qc) := by rw [← hW0, World.cell?_alloc_new]; rfl
              have d3 : W0.cell? ⟨w.heap.size, 3, none⟩ = some (.int .i64 qd) := by rw [← hW0, World.cell?_alloc_new]; rfl
              have d4 : W0.cell? ⟨w.heap.size, 4, none⟩ = some (.int .i64 qe) := by rw [← hW0, World.cell?_alloc_new]; rfl
              have d5 : W0.cell? ⟨w.heap.size, 5, none⟩ = some (.int .i64 qf) := by rw [← hW0, World.cell?_alloc_new]; rfl
              have d6 : W0.cell? ⟨w.heap.size, 6, none⟩ = some (.int .i64 qg) := by rw [← hW0, World.cell?_alloc_new]; rfl
              have d7 : W0.cell? ⟨w.heap.size, 7, none⟩ = some (.int .i64 qh) := by rw [← hW0, World.cell?_alloc_new]; rfl
              have B0 : Hid (Below w.heap.size w W0) := by rw [← hW0]; exact (Below.refl _ _).alloc (Nat.le_refl _) _
              rw [hW0]
              clear hW0
              refine (C0.out _).mono ?_
              rintro e W ⟨rfl, h⟩
              have h := h.symm
              subst h
              go_wp2_with fail
              refine (C1.out _).mono ?_
              rintro e W ⟨rfl, h⟩
              have h := h.symm
              subst h
              go_wp2_with fail
              refine (C2.out _).mono ?_
              rintro e W ⟨rfl, h⟩
              have h := h.symm
              subst h
              go_wp2_with fail
              refine (C3.out _).mono ?_
              rintro e W ⟨rfl, h⟩
              have h := h.symm
              subst h
              go_wp2_with fail
              refine (C4.out _).mono ?_
              rintro e W ⟨rfl, h⟩
              have h := h.symm
              subst h
              go_wp2_with fail
              refine (C5.out _).mono ?_
              rintro e W ⟨rfl, h⟩
              have h := h.symm
              subst h
              go_wp2_with fail
              go_ret
              exact ⟨by rw [HR.out]; rfl, B0.out⟩
            | true =>
              cases t6 with
              | false =>
                go_enter Try.func86, Try.ntmps86
                go_wp2_with fail
                obtain ⟨W0, hW0⟩ : ∃ W0, w.alloc (.cells #[.string qa, .int .i64 qb, .int .i64 qc, .int .i64 qd, .int .i64 qe, .int .i64 qf, .int .i64 qg, .int .i64 qh] 109) = W0 := ⟨_, rfl⟩
                have d0 : W0.cell? ⟨w.heap.size, 0, none⟩ = some (.string qa) := by rw [← hW0, World.cell?_alloc_new]; rfl
                have d1 : W0.cell? ⟨w.heap.size, 1, none⟩ = some (.int .i64 qb) := by rw [← hW0, World.cell?_alloc_new]; rfl
                have d2 : W0.cell? ⟨w.heap.size, 2, none⟩ = some (.int .i64 qc) := by rw [← hW0, World.cell?_alloc_new]; rfl
                have d3 : W0.cell? ⟨w.heap.size, 3, none⟩ = some (.int .i64 qd) := by rw [← hW0, World.cell?_alloc_new]; rfl
                have d4 : W0.cell? ⟨w.heap.size, 4, none⟩ = some (.int .i64 qe) := by rw [← hW0, World.cell?_alloc_new]; rfl
                have d5 : W0.cell? ⟨w.heap.size, 5, none⟩ = some (.int .i64 qf) := by rw [← hW0, World.cell?_alloc_new]; rfl
                have d6 : W0.cell? ⟨w.heap.size, 6, none⟩ = some (.int .i64 qg) := by rw [← hW0, World.cell?_alloc_new]; rfl
                have d7 : W0.cell? ⟨w.heap.size, 7, none⟩ = some (.int .i64 qh) := by rw [← hW0, World.cell?_alloc_new]; rfl
                have B0 : Hid (Below w.heap.size w W0) := by rw [← hW0]; exact (Below.refl _ _).alloc (Nat.le_refl _) _
                rw [hW0]
                clear hW0
                refine (C0.out _).mono ?_
                rintro e W ⟨rfl, h⟩
                have h := h.symm
                subst h
                go_wp2_with fail
                refine (C1.out _).mono ?_
                rintro e W ⟨rfl, h⟩
                have h := h.symm
                subst h
                go_wp2_with fail
                refine (C2.out _).mono ?_
                rintro e W ⟨rfl, h⟩
                have h := h.symm
                subst h
                go_wp2_with fail
                refine (C3.out _).mono ?_
                rintro e W ⟨rfl, h⟩
                have h := h.symm
                subst h
                go_wp2_with fail
                refine (C4.out _).mono ?_
                rintro e W ⟨rfl, h⟩
                have h := h.symm
                subst h
                go_wp2_with fail
                refine (C5.out _).mono ?_
                rintro e W ⟨rfl, h⟩
                have h := h.symm
                subst h
                go_wp2_with fail
                refine (C6.out _).mono ?_
                rintro e W ⟨rfl, h⟩
                have h := h.symm
                subst h
                go_wp2_with fail
                go_ret
                exact ⟨by rw [HR.out]; rfl, B0.out⟩
              | true =>
                cases t7 with
                | false =>
                  go_enter Try.func86, Try.ntmps86
                  go_wp2_with fail
                  obtain ⟨W0, hW0⟩ : ∃ W0, w.alloc (.cells #[.string qa, .int .i64 qb, .int .i64 qc, .int .i64 qd, .int .i64 qe, .int .i64 qf, .int .i64 qg, .int .i64 qh] 109) = W0 := ⟨_, rfl⟩
                  have d0 : W0.cell? ⟨w.heap.size, 0, none⟩ = some (.string qa) := by rw [← hW0, World.cell?_alloc_new]; rfl
                  have d1 : W0.cell? ⟨w.heap.size, 1, none⟩ = some (.int .i64 qb) := by rw [← hW0, World.cell?_alloc_new]; rfl
                  have d2 : W0.cell? ⟨w.heap.size, 2, none⟩ = some (.int .i64 qc) := by rw [← hW0, World.cell?_alloc_new]; rfl
                  have d3 : W0.cell? ⟨w.heap.size, 3, none⟩ = some (.int .i64 qd) := by rw [← hW0, World.cell?_alloc_new]; rfl
                  have d4 : W0.cell? ⟨w.heap.size, 4, none⟩ = some (.int .i64 qe) := by rw [← hW0, World.cell?_alloc_new]; rfl
                  have d5 : W0.cell? ⟨w.heap.size, 5, none⟩ = some (.int .i64 qf) := by rw [← hW0, World.cell?_alloc_new]; rfl
                  have d6 : W0.cell? ⟨w.heap.size, 6, none⟩ = some (.int .i64 qg) := by rw [← hW0, World.cell?_alloc_new]; rfl
                  have d7 : W0.cell? ⟨w.heap.size, 7, none⟩ = some (.int .i64 qh) := by rw [← hW0, World.cell?_alloc_new]; rfl
                  have B0 : Hid (Below w.heap.size w W0) := by rw [← hW0]; exact (Below.refl _ _).alloc (Nat.le_refl _) _
                  rw [hW0]
                  clear hW0
                  refine (C0.out _).mono ?_
                  rintro e W ⟨rfl, h⟩
                  have h := h.symm
                  subst h
                  go_wp2_with fail
                  refine (C1.out _).mono ?_
                  rintro e W ⟨rfl, h⟩
                  have h := h.symm
                  subst h
                  go_wp2_with fail
                  refine (C2.out _).mono ?_
                  rintro e W ⟨rfl, h⟩
                  have h := h.symm
                  subst h
                  go_wp2_with fail
                  refine (C3.out _).mono ?_
                  rintro e W ⟨rfl, h⟩
                  have h := h.symm
                  subst h
                  go_wp2_with fail
                  refine (C4.out _).mono ?_
                  rintro e W ⟨rfl, h⟩
                  have h := h.symm
                  subst h
                  go_wp2_with fail
                  refine (C5.out _).mono ?_
                  rintro e W ⟨rfl, h⟩
                  have h := h.symm
                  subst h
                  go_wp2_with fail
                  refine (C6.out _).mono ?_
                  rintro e W ⟨rfl, h⟩
                  have h := h.symm
                  subst h
                  go_wp2_with fail
                  refine (C7.out _).mono ?_
                  rintro e W ⟨rfl, h⟩
                  have h := h.symm
                  subst h
                  go_wp2_with fail
                  go_ret
                  exact ⟨by rw [HR.out]; rfl, B0.out⟩
                | true =>
                  go_enter Try.func86, Try.ntmps86
                  go_wp2_with fail
                  obtain ⟨W0, hW0⟩ : ∃ W0, w.alloc (.cells #[.string qa, .int .i64 qb, .int .i64 qc, .int .i64 qd, .int .i64 qe, .int .i64 qf, .int .i64 qg, .int .i64 qh] 109) = W0 := ⟨_, rfl⟩
                  have d0 : W0.cell? ⟨w.heap.size, 0, none⟩ = some (.string qa) := by rw [← hW0, World.cell?_alloc_new]; rfl
                  have d1 : W0.cell? ⟨w.heap.size, 1, none⟩ = some (.int .i64 qb) := by rw [← hW0, World.cell?_alloc_new]; rfl
                  have d2 : W0.cell? ⟨w.heap.size, 2, none⟩ = some (.int .i64 qc) := by rw [← hW0, World.cell?_alloc_new]; rfl
                  have d3 : W0.cell? ⟨w.heap.size, 3, none⟩ = some (.int .i64 qd) := by rw [← hW0, World.cell?_alloc_new]; rfl
                  have d4 : W0.cell? ⟨w.heap.size, 4, none⟩ = some (.int .i64 qe) := by rw [← hW0, World.cell?_alloc_new]; rfl
                  have d5 : W0.cell? ⟨w.heap.size, 5, none⟩ = some (.int .i64 qf) := by rw [← hW0, World.cell?_alloc_new]; rfl
                  have d6 : W0.cell? ⟨w.heap.size, 6, none⟩ = some (.int .i64 qg) := by rw [← hW0, World.cell?_alloc_new]; rfl
                  have d7 : W0.cell? ⟨w.heap.size, 7, none⟩ = some (.int .i64 qh) := by rw [← hW0, World.cell?_alloc_new]; rfl
                  have B0 : Hid (Below w.heap.size w W0) := by rw [← hW0]; exact (Below.refl _ _).alloc (Nat.le_refl _) _
                  rw [hW0]
                  clear hW0
                  refine (C0.out _).mono ?_
                  rintro e W ⟨rfl, h⟩
                  have h := h.symm
                  subst h
                  go_wp2_with fail
                  refine (C1.out _).mono ?_
                  rintro e W ⟨rfl, h⟩
                  have h := h.symm
                  subst h
                  go_wp2_with fail
                  refine (C2.out _).mono ?_
                  rintro e W ⟨rfl, h⟩
                  have h := h.symm
                  subst h
                  go_wp2_with fail
                  refine (C3.out _).mono ?_
                  rintro e W ⟨rfl, h⟩
                  have h := h.symm
                  subst h
                  go_wp2_with fail
                  refine (C4.out _).mono ?_
                  rintro e W ⟨rfl, h⟩
                  have h := h.symm
                  subst h
                  go_wp2_with fail
                  refine (C5.out _).mono ?_
                  rintro e W ⟨rfl, h⟩
                  have h := h.symm
                  subst h
                  go_wp2_with fail
                  refine (C6.out _).mono ?_
                  rintro e W ⟨rfl, h⟩
                  have h := h.symm
                  subst h
                  go_wp2_with fail
                  refine (C7.out _).mono ?_
                  rintro e W ⟨rfl, h⟩
                  have h := h.symm
                  subst h
                  go_wp2_with fail
                  go_ret
                  exact ⟨by rw [HR.out]; rfl, B0.out⟩
structure AllTaskRel (n : Nat) (xs : List MTask) (w : World) (v : Value) (wr : World) : Prop where
  ex : ∃ k : Nat, k ≤ n ∧ v = .int .i64 (k : Int) ∧ (∀ (j : Nat) y, xs[j]? = some y → j < k → rightTask y = true) ∧ Below w.heap.size w wr
set_option maxRecDepth 100000 in
set_option maxHeartbeats 4000000 in
theorem allTask_any (v : Value) (xs : List MTask) (most : Int) (w : World) (h : Row w 8 RTask v xs) :
    Calls Try.prog 85 #[v, .int .i64 most, .func (.func 86) #[] #[]] w fun e w' => e = .returned (.bool (allB most rightTask xs)) ∧ Below w.heap.size w w' := by
  obtain ⟨a, cap, rfl, hm⟩ := h.form
  obtain ⟨n, hn⟩ : ∃ n, xs.length = n := ⟨_, rfl⟩
  rw [hn] at h hm ⊢
  have HN := Lib.hid hn
  have H := Lib.hid h
  unfold rowMax at hm
  clear hn h
  by_cases hgt : most < (n : Int)
  · have HR : Hid (allB most rightTask xs = false) := by unfold Hid allB; rw [HN.out, decide_eq_false (by omega)]; rfl
    go_enter Try.func85, Try.ntmps85
    go_wp2_with fail
    go_ret
    exact ⟨by rw [HR.out]; rfl, Below.refl _ _⟩
  · have hgt' : (n : Int) ≤ most := by omega
    have HR : Hid (allB most rightTask xs = xs.all rightTask) := by unfold Hid allB; rw [HN.out, decide_eq_true hgt']; rfl
    go_enter Try.func85, Try.ntmps85
    go_wp2_with fail
    go_loopw [15] (fun v wr => AllTaskRel n xs w v wr) (fun v => fun _ => n - (intOf v).toNat)
    case atStart => exact ⟨⟨0, Nat.zero_le _, rfl, fun j y _ h => by omega, Below.refl _ _⟩⟩
    case round =>
      obtain ⟨⟨k, hk, rfl, hall, hb⟩⟩ := hrel
      have HK := Lib.hid hk
      have HA := Lib.hid hall
      have HB := Lib.hid hb
      clear hk hall hb
      by_cases hlt : k < n
      · have hkI : (k : Int) < (n : Int) := by omega
        have HX : Hid (k < n) := hlt
        obtain ⟨hnx, b, off, x, cs, rfl, hbl, hx, hR, _, hc⟩ := H.out.at_ k hlt
        clear hnx
        have HXS := Lib.hid hx
        obtain ⟨qa, qb, qc, qd, qe, qf, qg, qh⟩ := x
        obtain ⟨rfl, hsqa⟩ := hR
        have d0 : wr.cell? ⟨b, off + k * 8, none⟩ = some (.string qa) := cell_later HB.out (hc 0 _ rfl)
        have d1 : wr.cell? ⟨b, off + k * 8 + 1, none⟩ = some (.int .i64 qb) := cell_later HB.out (hc 1 _ rfl)
        have d2 : wr.cell? ⟨b, off + k * 8 + 2, none⟩ = some (.int .i64 qc) := cell_later HB.out (hc 2 _ rfl)
        have d3 : wr.cell? ⟨b, off + k * 8 + 3, none⟩ = some (.int .i64 qd) := cell_later HB.out (hc 3 _ rfl)
        have d4 : wr.cell? ⟨b, off + k * 8 + 4, none⟩ = some (.int .i64 qe) := cell_later HB.out (hc 4 _ rfl)
        have d5 : wr.cell? ⟨b, off + k * 8 + 5, none⟩ = some (.int .i64 qf) := cell_later HB.out (hc 5 _ rfl)
        have d6 : wr.cell? ⟨b, off + k * 8 + 6, none⟩ = some (.int .i64 qg) := cell_later HB.out (hc 6 _ rfl)
        have d7 : wr.cell? ⟨b, off + k * 8 + 7, none⟩ = some (.int .i64 qh) := cell_later HB.out (hc 7 _ rfl)
        obtain ⟨t, ht⟩ : ∃ t, rightTask ⟨qa, qb, qc, qd, qe, qf, qg, qh⟩ = t := ⟨_, rfl⟩
        have HT := Lib.hid ht
        have C : Hid (Calls Try.prog 86 #[.agg #[.string qa, .int .i64 qb, .int .i64 qc, .int .i64 qd, .int .i64 qe, .int .i64 qf, .int .i64 qg, .int .i64 qh]] (wr.alloc (.cells #[.string qa, .int .i64 qb, .int .i64 qc, .int .i64 qd, .int .i64 qe, .int .i64 qf, .int .i64 qg, .int .i64 qh] 109)) fun e w' => e = .returned (.bool t) ∧ Below (wr.alloc (.cells #[.string qa, .int .i64 qb, .int .i64 qc, .int .i64 qd, .int .i64 qe, .int .i64 qf, .int .i64 qg, .int .i64 qh] 109)).heap.size (wr.alloc (.cells #[.string qa, .int .i64 qb, .int .i64 qc, .int .i64 qd, .int .i64 qe, .int .i64 qf, .int .i64 qg, .int .i64 qh] 109)) w') := by
          unfold Hid
          rw [← ht]; exact rightTask_core qa qb qc qd qe qf qg qh  _ hsqa 
        clear hc ht hlt hsqa 
        go_wp2_with fail
        refine C.out.mono ?_
        rintro e W1 ⟨rfl, b1⟩
        have HB1 : Hid (Below w.heap.size w W1) := (HB.out.alloc HB.out.size _).trans (b1.mono (by have := HB.out.size; simp; omega))
        clear b1 C
        cases t with
        | true =>
          go_wp2_with fail
          go_roundw
          case rel =>
            have Q : AllTaskRel n xs w (.int .i64 ((k : Int) + 1)) W1 := ⟨⟨k + 1, HX.out, by go_num, fun j y hy hj => by
              by_cases e : j = k
              · subst e
                have e2 := HXS.out.symm.trans hy
                injection e2 with e2
                rw [← e2]; exact HT.out
              · exact HA.out j y hy (by omega), HB1.out⟩⟩
            first | exact Q | ((repeat apply Exists.intro); exact ⟨Q, rfl⟩)
          case measure => have := HX.out; simp [intOf]; omega
        | false =>
          have HF : Hid (xs.all rightTask = false) := all_false HXS.out HT.out
          go_wp2_with fail
          go_ret
          exact ⟨by rw [HR.out, HF.out]; rfl, HB1.out⟩
      · have hkI : ¬ (k : Int) < (n : Int) := by omega
        have HF : Hid (xs.all rightTask = true) := all_true fun j y hy => HA.out j y hy (by have h1 := (List.getElem?_eq_some_iff.1 hy).1; have := HN.out; have := HK.out; omega)
        go_wp2_with fail
        go_ret
        exact ⟨by rw [HR.out, HF.out]; rfl, HB.out⟩
def rightLock (x : MLock) : Bool := nameB x.qa && inB x.qb 1 63
set_option maxRecDepth 100000 in
set_option maxHeartbeats 4000000 in
theorem rightLock_core (qa : ByteArray) (qb : Int) (w : World) (hsqa : qa.size ≤ maxLen) :
    Calls Try.prog 88 #[.agg #[.string qa, .int .i64 qb]] w fun e w' => e = .returned (.bool (rightLock ⟨qa, qb⟩)) ∧ Below w.heap.size w w' := by
  obtain ⟨t0, h0⟩ : ∃ t : Bool, nameB qa = t := ⟨_, rfl⟩
  obtain ⟨t1, h1⟩ : ∃ t : Bool, inB qb 1 63 = t := ⟨_, rfl⟩
  have HR : Hid (rightLock ⟨qa, qb⟩ = (t0 && t1)) := by unfold Hid rightLock; dsimp only; rw [h0, h1]
  have C0 : Hid (∀ W, Calls Try.prog 8 #[.string qa] W fun e w' => e = .returned (.bool t0) ∧ w' = W) := fun W => by rw [← h0]; exact name_any qa W hsqa
  have C1 : Hid (∀ W, Calls Try.prog 28 #[.int .i64 qb, .int .i64 1, .int .i64 63] W fun e w' => e = .returned (.bool t1) ∧ w' = W) := fun W => by rw [← h1]; exact within_any qb _ _ W
  clear h0 h1 hsqa
  cases t0 with
  | false =>
    go_enter Try.func88, Try.ntmps88
    go_wp2_with fail
    obtain ⟨W0, hW0⟩ : ∃ W0, w.alloc (.cells #[.string qa, .int .i64 qb] 111) = W0 := ⟨_, rfl⟩
    have d0 : W0.cell? ⟨w.heap.size, 0, none⟩ = some (.string qa) := by rw [← hW0, World.cell?_alloc_new]; rfl
    have d1 : W0.cell? ⟨w.heap.size, 1, none⟩ = some (.int .i64 qb) := by rw [← hW0, World.cell?_alloc_new]; rfl
    have B0 : Hid (Below w.heap.size w W0) := by rw [← hW0]; exact (Below.refl _ _).alloc (Nat.le_refl _) _
    rw [hW0]
    clear hW0
    refine (C0.out _).mono ?_
    rintro e W ⟨rfl, h⟩
    have h := h.symm
    subst h
    go_wp2_with fail
    go_ret
    exact ⟨by rw [HR.out]; rfl, B0.out⟩
  | true =>
    cases t1 with
    | false =>
      go_enter Try.func88, Try.ntmps88
      go_wp2_with fail
      obtain ⟨W0, hW0⟩ : ∃ W0, w.alloc (.cells #[.string qa, .int .i64 qb] 111) = W0 := ⟨_, rfl⟩
      have d0 : W0.cell? ⟨w.heap.size, 0, none⟩ = some (.string qa) := by rw [← hW0, World.cell?_alloc_new]; rfl
      have d1 : W0.cell? ⟨w.heap.size, 1, none⟩ = some (.int .i64 qb) := by rw [← hW0, World.cell?_alloc_new]; rfl
      have B0 : Hid (Below w.heap.size w W0) := by rw [← hW0]; exact (Below.refl _ _).alloc (Nat.le_refl _) _
      rw [hW0]
      clear hW0
      refine (C0.out _).mono ?_
      rintro e W ⟨rfl, h⟩
      have h := h.symm
      subst h
      go_wp2_with fail
      refine (C1.out _).mono ?_
      rintro e W ⟨rfl, h⟩
      have h := h.symm
      subst h
      go_wp2_with fail
      go_ret
      exact ⟨by rw [HR.out]; rfl, B0.out⟩
    | true =>
      go_enter Try.func88, Try.ntmps88
      go_wp2_with fail
      obtain ⟨W0, hW0⟩ : ∃ W0, w.alloc (.cells #[.string qa, .int .i64 qb] 111) = W0 := ⟨_, rfl⟩
      have d0 : W0.cell? ⟨w.heap.size, 0, none⟩ = some (.string qa) := by rw [← hW0, World.cell?_alloc_new]; rfl
      have d1 : W0.cell? ⟨w.heap.size, 1, none⟩ = some (.int .i64 qb) := by rw [← hW0, World.cell?_alloc_new]; rfl
      have B0 : Hid (Below w.heap.size w W0) := by rw [← hW0]; exact (Below.refl _ _).alloc (Nat.le_refl _) _
      rw [hW0]
      clear hW0
      refine (C0.out _).mono ?_
      rintro e W ⟨rfl, h⟩
      have h := h.symm
      subst h
      go_wp2_with fail
      refine (C1.out _).mono ?_
      rintro e W ⟨rfl, h⟩
      have h := h.symm
      subst h
      go_wp2_with fail
      go_ret
      exact ⟨by rw [HR.out]; rfl, B0.out⟩
structure AllLockRel (n : Nat) (xs : List MLock) (w : World) (v : Value) (wr : World) : Prop where
  ex : ∃ k : Nat, k ≤ n ∧ v = .int .i64 (k : Int) ∧ (∀ (j : Nat) y, xs[j]? = some y → j < k → rightLock y = true) ∧ Below w.heap.size w wr
set_option maxRecDepth 100000 in
set_option maxHeartbeats 4000000 in
theorem allLock_any (v : Value) (xs : List MLock) (most : Int) (w : World) (h : Row w 2 RLock v xs) :
    Calls Try.prog 87 #[v, .int .i64 most, .func (.func 88) #[] #[]] w fun e w' => e = .returned (.bool (allB most rightLock xs)) ∧ Below w.heap.size w w' := by
  obtain ⟨a, cap, rfl, hm⟩ := h.form
  obtain ⟨n, hn⟩ : ∃ n, xs.length = n := ⟨_, rfl⟩
  rw [hn] at h hm ⊢
  have HN := Lib.hid hn
  have H := Lib.hid h
  unfold rowMax at hm
  clear hn h
  by_cases hgt : most < (n : Int)
  · have HR : Hid (allB most rightLock xs = false) := by unfold Hid allB; rw [HN.out, decide_eq_false (by omega)]; rfl
    go_enter Try.func87, Try.ntmps87
    go_wp2_with fail
    go_ret
    exact ⟨by rw [HR.out]; rfl, Below.refl _ _⟩
  · have hgt' : (n : Int) ≤ most := by omega
    have HR : Hid (allB most rightLock xs = xs.all rightLock) := by unfold Hid allB; rw [HN.out, decide_eq_true hgt']; rfl
    go_enter Try.func87, Try.ntmps87
    go_wp2_with fail
    go_loopw [15] (fun v wr => AllLockRel n xs w v wr) (fun v => fun _ => n - (intOf v).toNat)
    case atStart => exact ⟨⟨0, Nat.zero_le _, rfl, fun j y _ h => by omega, Below.refl _ _⟩⟩
    case round =>
      obtain ⟨⟨k, hk, rfl, hall, hb⟩⟩ := hrel
      have HK := Lib.hid hk
      have HA := Lib.hid hall
      have HB := Lib.hid hb
      clear hk hall hb
      by_cases hlt : k < n
      · have hkI : (k : Int) < (n : Int) := by omega
        have HX : Hid (k < n) := hlt
        obtain ⟨hnx, b, off, x, cs, rfl, hbl, hx, hR, _, hc⟩ := H.out.at_ k hlt
        clear hnx
        have HXS := Lib.hid hx
        obtain ⟨qa, qb⟩ := x
        obtain ⟨rfl, hsqa⟩ := hR
        have d0 : wr.cell? ⟨b, off + k * 2, none⟩ = some (.string qa) := cell_later HB.out (hc 0 _ rfl)
        have d1 : wr.cell? ⟨b, off + k * 2 + 1, none⟩ = some (.int .i64 qb) := cell_later HB.out (hc 1 _ rfl)
        obtain ⟨t, ht⟩ : ∃ t, rightLock ⟨qa, qb⟩ = t := ⟨_, rfl⟩
        have HT := Lib.hid ht
        have C : Hid (Calls Try.prog 88 #[.agg #[.string qa, .int .i64 qb]] (wr.alloc (.cells #[.string qa, .int .i64 qb] 111)) fun e w' => e = .returned (.bool t) ∧ Below (wr.alloc (.cells #[.string qa, .int .i64 qb] 111)).heap.size (wr.alloc (.cells #[.string qa, .int .i64 qb] 111)) w') := by
          unfold Hid
          rw [← ht]; exact rightLock_core qa qb  _ hsqa 
        clear hc ht hlt hsqa 
        go_wp2_with fail
        refine C.out.mono ?_
        rintro e W1 ⟨rfl, b1⟩
        have HB1 : Hid (Below w.heap.size w W1) := (HB.out.alloc HB.out.size _).trans (b1.mono (by have := HB.out.size; simp; omega))
        clear b1 C
        cases t with
        | true =>
          go_wp2_with fail
          go_roundw
          case rel =>
            have Q : AllLockRel n xs w (.int .i64 ((k : Int) + 1)) W1 := ⟨⟨k + 1, HX.out, by go_num, fun j y hy hj => by
              by_cases e : j = k
              · subst e
                have e2 := HXS.out.symm.trans hy
                injection e2 with e2
                rw [← e2]; exact HT.out
              · exact HA.out j y hy (by omega), HB1.out⟩⟩
            first | exact Q | ((repeat apply Exists.intro); exact ⟨Q, rfl⟩)
          case measure => have := HX.out; simp [intOf]; omega
        | false =>
          have HF : Hid (xs.all rightLock = false) := all_false HXS.out HT.out
          go_wp2_with fail
          go_ret
          exact ⟨by rw [HR.out, HF.out]; rfl, HB1.out⟩
      · have hkI : ¬ (k : Int) < (n : Int) := by omega
        have HF : Hid (xs.all rightLock = true) := all_true fun j y hy => HA.out j y hy (by have h1 := (List.getElem?_eq_some_iff.1 hy).1; have := HN.out; have := HK.out; omega)
        go_wp2_with fail
        go_ret
        exact ⟨by rw [HR.out, HF.out]; rfl, HB.out⟩
def rightSema (x : MSema) : Bool := nameB x.qa && inB x.qb 0 65535 && inB x.qc 1 65535
set_option maxRecDepth 100000 in
set_option maxHeartbeats 4000000 in
theorem rightSema_core (qa : ByteArray) (qb : Int) (qc : Int) (qd : Bool) (w : World) (hsqa : qa.size ≤ maxLen) :
    Calls Try.prog 90 #[.agg #[.string qa, .int .i64 qb, .int .i64 qc, .bool qd]] w fun e w' => e = .returned (.bool (rightSema ⟨qa, qb, qc, qd⟩)) ∧ Below w.heap.size w w' := by
  obtain ⟨t0, h0⟩ : ∃ t : Bool, nameB qa = t := ⟨_, rfl⟩
  obtain ⟨t1, h1⟩ : ∃ t : Bool, inB qb 0 65535 = t := ⟨_, rfl⟩
  obtain ⟨t2, h2⟩ : ∃ t : Bool, inB qc 1 65535 = t := ⟨_, rfl⟩
  have HR : Hid (rightSema ⟨qa, qb, qc, qd⟩ = (t0 && t1 && t2)) := by unfold Hid rightSema; dsimp only; rw [h0, h1, h2]
  have C0 : Hid (∀ W, Calls Try.prog 8 #[.string qa] W fun e w' => e = .returned (.bool t0) ∧ w' = W) := fun W => by rw [← h0]; exact name_any qa W hsqa
  have C1 : Hid (∀ W, Calls Try.prog 28 #[.int .i64 qb, .int .i64 0, .int .i64 65535] W fun e w' => e = .returned (.bool t1) ∧ w' = W) := fun W => by rw [← h1]; exact within_any qb _ _ W
  have C2 : Hid (∀ W, Calls Try.prog 28 #[.int .i64 qc, .int .i64 1, .int .i64 65535] W fun e w' => e = .returned (.bool t2) ∧ w' = W) := fun W => by rw [← h2]; exact within_any qc _ _ W
  clear h0 h1 h2 hsqa
  cases t0 with
  | false =>
    go_enter Try.func90, Try.ntmps90
    go_wp2_with fail
    obtain ⟨W0, hW0⟩ : ∃ W0, w.alloc (.cells #[.string qa, .int .i64 qb, .int .i64 qc, .bool qd] 113) = W0 := ⟨_, rfl⟩
    have d0 : W0.cell? ⟨w.heap.size, 0, none⟩ = some (.string qa) := by rw [← hW0, World.cell?_alloc_new]; rfl
    have d1 : W0.cell? ⟨w.heap.size, 1, none⟩ = some (.int .i64 qb) := by rw [← hW0, World.cell?_alloc_new]; rfl
    have d2 : W0.cell? ⟨w.heap.size, 2, none⟩ = some (.int .i64 qc) := by rw [← hW0, World.cell?_alloc_new]; rfl
    have d3 : W0.cell? ⟨w.heap.size, 3, none⟩ = some (.bool qd) := by rw [← hW0, World.cell?_alloc_new]; rfl
    have B0 : Hid (Below w.heap.size w W0) := by rw [← hW0]; exact (Below.refl _ _).alloc (Nat.le_refl _) _
    rw [hW0]
    clear hW0
    refine (C0.out _).mono ?_
    rintro e W ⟨rfl, h⟩
    have h := h.symm
    subst h
    go_wp2_with fail
    go_ret
    exact ⟨by rw [HR.out]; rfl, B0.out⟩
  | true =>
    cases t1 with
    | false =>
      go_enter Try.func90, Try.ntmps90
      go_wp2_with fail
      obtain ⟨W0, hW0⟩ : ∃ W0, w.alloc (.cells #[.string qa, .int .i64 qb, .int .i64 qc, .bool qd] 113) = W0 := ⟨_, rfl⟩
      have d0 : W0.cell? ⟨w.heap.size, 0, none⟩ = some (.string qa) := by rw [← hW0, World.cell?_alloc_new]; rfl
      have d1 : W0.cell? ⟨w.heap.size, 1, none⟩ = some (.int .i64 qb) := by rw [← hW0, World.cell?_alloc_new]; rfl
      have d2 : W0.cell? ⟨w.heap.size, 2, none⟩ = some (.int .i64 qc) := by rw [← hW0, World.cell?_alloc_new]; rfl
      have d3 : W0.cell? ⟨w.heap.size, 3, none⟩ = some (.bool qd) := by rw [← hW0, World.cell?_alloc_new]; rfl
      have B0 : Hid (Below w.heap.size w W0) := by rw [← hW0]; exact (Below.refl _ _).alloc (Nat.le_refl _) _
      rw [hW0]
      clear hW0
      refine (C0.out _).mono ?_
      rintro e W ⟨rfl, h⟩
      have h := h.symm
      subst h
      go_wp2_with fail
      refine (C1.out _).mono ?_
      rintro e W ⟨rfl, h⟩
      have h := h.symm
      subst h
      go_wp2_with fail
      go_ret
      exact ⟨by rw [HR.out]; rfl, B0.out⟩
    | true =>
      cases t2 with
      | false =>
        go_enter Try.func90, Try.ntmps90
        go_wp2_with fail
        obtain ⟨W0, hW0⟩ : ∃ W0, w.alloc (.cells #[.string qa, .int .i64 qb, .int .i64 qc, .bool qd] 113) = W0 := ⟨_, rfl⟩
        have d0 : W0.cell? ⟨w.heap.size, 0, none⟩ = some (.string qa) := by rw [← hW0, World.cell?_alloc_new]; rfl
        have d1 : W0.cell? ⟨w.heap.size, 1, none⟩ = some (.int .i64 qb) := by rw [← hW0, World.cell?_alloc_new]; rfl
        have d2 : W0.cell? ⟨w.heap.size, 2, none⟩ = some (.int .i64 qc) := by rw [← hW0, World.cell?_alloc_new]; rfl
        have d3 : W0.cell? ⟨w.heap.size, 3, none⟩ = some (.bool qd) := by rw [← hW0, World.cell?_alloc_new]; rfl
        have B0 : Hid (Below w.heap.size w W0) := by rw [← hW0]; exact (Below.refl _ _).alloc (Nat.le_refl _) _
        rw [hW0]
        clear hW0
        refine (C0.out _).mono ?_
        rintro e W ⟨rfl, h⟩
        have h := h.symm
        subst h
        go_wp2_with fail
        refine (C1.out _).mono ?_
        rintro e W ⟨rfl, h⟩
        have h := h.symm
        subst h
        go_wp2_with fail
        refine (C2.out _).mono ?_
        rintro e W ⟨rfl, h⟩
        have h := h.symm
        subst h
        go_wp2_with fail
        go_ret
        exact ⟨by rw [HR.out]; rfl, B0.out⟩
      | true =>
        go_enter Try.func90, Try.ntmps90
        go_wp2_with fail
        obtain ⟨W0, hW0⟩ : ∃ W0, w.alloc (.cells #[.string qa, .int .i64 qb, .int .i64 qc, .bool qd] 113) = W0 := ⟨_, rfl⟩
        have d0 : W0.cell? ⟨w.heap.size, 0, none⟩ = some (.string qa) := by rw [← hW0, World.cell?_alloc_new]; rfl
        have d1 : W0.cell? ⟨w.heap.size, 1, none⟩ = some (.int .i64 qb) := by rw [← hW0, World.cell?_alloc_new]; rfl
        have d2 : W0.cell? ⟨w.heap.size, 2, none⟩ = some (.int .i64 qc) := by rw [← hW0, World.cell?_alloc_new]; rfl
        have d3 : W0.cell? ⟨w.heap.size, 3, none⟩ = some (.bool qd) := by rw [← hW0, World.cell?_alloc_new]; rfl
        have B0 : Hid (Below w.heap.size w W0) := by rw [← hW0]; exact (Below.refl _ _).alloc (Nat.le_refl _) _
        rw [hW0]
        clear hW0
        refine (C0.out _).mono ?_
        rintro e W ⟨rfl, h⟩
        have h := h.symm
        subst h
        go_wp2_with fail
        refine (C1.out _).mono ?_
        rintro e W ⟨rfl, h⟩
        have h := h.symm
        subst h
        go_wp2_with fail
        refine (C2.out _).mono ?_
        rintro e W ⟨rfl, h⟩
        have h := h.symm
        subst h
        go_wp2_with fail
        go_ret
        exact ⟨by rw [HR.out]; rfl, B0.out⟩
structure AllSemaRel (n : Nat) (xs : List MSema) (w : World) (v : Value) (wr : World) : Prop where
  ex : ∃ k : Nat, k ≤ n ∧ v = .int .i64 (k : Int) ∧ (∀ (j : Nat) y, xs[j]? = some y → j < k → rightSema y = true) ∧ Below w.heap.size w wr
set_option maxRecDepth 100000 in
set_option maxHeartbeats 4000000 in
theorem allSema_any (v : Value) (xs : List MSema) (most : Int) (w : World) (h : Row w 4 RSema v xs) :
    Calls Try.prog 89 #[v, .int .i64 most, .func (.func 90) #[] #[]] w fun e w' => e = .returned (.bool (allB most rightSema xs)) ∧ Below w.heap.size w w' := by
  obtain ⟨a, cap, rfl, hm⟩ := h.form
  obtain ⟨n, hn⟩ : ∃ n, xs.length = n := ⟨_, rfl⟩
  rw [hn] at h hm ⊢
  have HN := Lib.hid hn
  have H := Lib.hid h
  unfold rowMax at hm
  clear hn h
  by_cases hgt : most < (n : Int)
  · have HR : Hid (allB most rightSema xs = false) := by unfold Hid allB; rw [HN.out, decide_eq_false (by omega)]; rfl
    go_enter Try.func89, Try.ntmps89
    go_wp2_with fail
    go_ret
    exact ⟨by rw [HR.out]; rfl, Below.refl _ _⟩
  · have hgt' : (n : Int) ≤ most := by omega
    have HR : Hid (allB most rightSema xs = xs.all rightSema) := by unfold Hid allB; rw [HN.out, decide_eq_true hgt']; rfl
    go_enter Try.func89, Try.ntmps89
    go_wp2_with fail
    go_loopw [15] (fun v wr => AllSemaRel n xs w v wr) (fun v => fun _ => n - (intOf v).toNat)
    case atStart => exact ⟨⟨0, Nat.zero_le _, rfl, fun j y _ h => by omega, Below.refl _ _⟩⟩
    case round =>
      obtain ⟨⟨k, hk, rfl, hall, hb⟩⟩ := hrel
      have HK := Lib.hid hk
      have HA := Lib.hid hall
      have HB := Lib.hid hb
      clear hk hall hb
      by_cases hlt : k < n
      · have hkI : (k : Int) < (n : Int) := by omega
        have HX : Hid (k < n) := hlt
        obtain ⟨hnx, b, off, x, cs, rfl, hbl, hx, hR, _, hc⟩ := H.out.at_ k hlt
        clear hnx
        have HXS := Lib.hid hx
        obtain ⟨qa, qb, qc, qd⟩ := x
        obtain ⟨rfl, hsqa⟩ := hR
        have d0 : wr.cell? ⟨b, off + k * 4, none⟩ = some (.string qa) := cell_later HB.out (hc 0 _ rfl)
        have d1 : wr.cell? ⟨b, off + k * 4 + 1, none⟩ = some (.int .i64 qb) := cell_later HB.out (hc 1 _ rfl)
        have d2 : wr.cell? ⟨b, off + k * 4 + 2, none⟩ = some (.int .i64 qc) := cell_later HB.out (hc 2 _ rfl)
        have d3 : wr.cell? ⟨b, off + k * 4 + 3, none⟩ = some (.bool qd) := cell_later HB.out (hc 3 _ rfl)
        obtain ⟨t, ht⟩ : ∃ t, rightSema ⟨qa, qb, qc, qd⟩ = t := ⟨_, rfl⟩
        have HT := Lib.hid ht
        have C : Hid (Calls Try.prog 90 #[.agg #[.string qa, .int .i64 qb, .int .i64 qc, .bool qd]] (wr.alloc (.cells #[.string qa, .int .i64 qb, .int .i64 qc, .bool qd] 113)) fun e w' => e = .returned (.bool t) ∧ Below (wr.alloc (.cells #[.string qa, .int .i64 qb, .int .i64 qc, .bool qd] 113)).heap.size (wr.alloc (.cells #[.string qa, .int .i64 qb, .int .i64 qc, .bool qd] 113)) w') := by
          unfold Hid
          rw [← ht]; exact rightSema_core qa qb qc qd  _ hsqa 
        clear hc ht hlt hsqa 
        go_wp2_with fail
        refine C.out.mono ?_
        rintro e W1 ⟨rfl, b1⟩
        have HB1 : Hid (Below w.heap.size w W1) := (HB.out.alloc HB.out.size _).trans (b1.mono (by have := HB.out.size; simp; omega))
        clear b1 C
        cases t with
        | true =>
          go_wp2_with fail
          go_roundw
          case rel =>
            have Q : AllSemaRel n xs w (.int .i64 ((k : Int) + 1)) W1 := ⟨⟨k + 1, HX.out, by go_num, fun j y hy hj => by
              by_cases e : j = k
              · subst e
                have e2 := HXS.out.symm.trans hy
                injection e2 with e2
                rw [← e2]; exact HT.out
              · exact HA.out j y hy (by omega), HB1.out⟩⟩
            first | exact Q | ((repeat apply Exists.intro); exact ⟨Q, rfl⟩)
          case measure => have := HX.out; simp [intOf]; omega
        | false =>
          have HF : Hid (xs.all rightSema = false) := all_false HXS.out HT.out
          go_wp2_with fail
          go_ret
          exact ⟨by rw [HR.out, HF.out]; rfl, HB1.out⟩
      · have hkI : ¬ (k : Int) < (n : Int) := by omega
        have HF : Hid (xs.all rightSema = true) := all_true fun j y hy => HA.out j y hy (by have h1 := (List.getElem?_eq_some_iff.1 hy).1; have := HN.out; have := HK.out; omega)
        go_wp2_with fail
        go_ret
        exact ⟨by rw [HR.out, HF.out]; rfl, HB.out⟩
end Go.Proofs.Ytchlgihanogeeaa
