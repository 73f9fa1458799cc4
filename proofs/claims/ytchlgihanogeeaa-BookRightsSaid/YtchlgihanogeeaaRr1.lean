/-
  What the program's Right answers in the reference: rules and ends. Each statement bears its own conditions.
-/
import Derived.Test.YtchlgihanogeeaaRName
import Derived.Test.YtchlgihanogeeaaR4
import Derived.Test.YtchlgihanogeeaaR2
namespace Go.Proofs.Ytchlgihanogeeaa
open Go.RowKit
set_option linter.unusedVariables false
set_option linter.unusedSimpArgs false
/-- The cells of a block. -/
def Cells (w : World) (g : Nat) (cs : List Value) : Prop := ∀ j u, cs[j]? = some u → w.cell? ⟨g, j, none⟩ = some u
/-- A loop that looks at each element of a list. -/
structure LRel {α : Type} (f : α → Bool) (n : Nat) (xs : List α) (W0 : World) (v : Value) (wr : World) : Prop where
  ex : ∃ k : Nat, k ≤ n ∧ v = .int .i64 (k : Int) ∧ (∀ (j : Nat) y, xs[j]? = some y → j < k → f y = true) ∧ Below W0.heap.size W0 wr
theorem LRel.start {α : Type} {f : α → Bool} {n : Nat} {xs : List α} {W0 wr : World} (h : Below W0.heap.size W0 wr) : LRel f n xs W0 (.int .i64 0) wr := ⟨⟨0, Nat.zero_le _, rfl, fun j y _ h => by omega, h⟩⟩
theorem LRel.next {α : Type} {f : α → Bool} {n k : Nat} {xs : List α} {x : α} {W0 wr : World} (hk : k < n) (hx : xs[k]? = some x) (hf : f x = true) (ha : ∀ (j : Nat) y, xs[j]? = some y → j < k → f y = true) (hb : Below W0.heap.size W0 wr) : LRel f n xs W0 (.int .i64 ((k : Int) + 1)) wr :=
  ⟨⟨k + 1, hk, by go_num, fun j y hy hj => by
    by_cases e : j = k
    · subst e
      have e2 := hx.symm.trans hy
      injection e2 with e2
      rw [← e2]; exact hf
    · exact ha j y hy (by omega), hb⟩⟩
theorem LRel.done {α : Type} {f : α → Bool} {n k : Nat} {xs : List α} (hk : k ≤ n) (hn : xs.length = n) (hlt : ¬ k < n) (ha : ∀ (j : Nat) y, xs[j]? = some y → j < k → f y = true) : xs.all f = true :=
  all_true fun j y hy => ha j y hy (by have h1 := (List.getElem?_eq_some_iff.1 hy).1; omega)
theorem allB_len {α : Type} {f : α → Bool} {xs : List α} {n : Nat} {m : Int} (hn : xs.length = n) (h : m < (n : Int)) : allB m f xs = false := by unfold allB; rw [hn, decide_eq_false (by omega)]; rfl
theorem allB_el {α : Type} {f : α → Bool} {xs : List α} {m : Int} (h : xs.all f = false) : allB m f xs = false := by unfold allB; rw [h]; simp
theorem allB_ok {α : Type} {f : α → Bool} {xs : List α} {n : Nat} {m : Int} (hn : xs.length = n) (h : (n : Int) ≤ m) (ha : xs.all f = true) : allB m f xs = true := by unfold allB; rw [hn, decide_eq_true h, ha]; rfl
set_option maxRecDepth 100000 in
set_option maxHeartbeats 4000000 in
theorem rrules_any (v : Value) (xs : List MRule) (w : World) (h : Row w 3 RRule v xs) :
    Calls Try.prog 40 #[v] w fun e w' => e = .returned (.bool (allB 32 rightRule xs)) ∧ Below w.heap.size w w' := by
  obtain ⟨a, cap, rfl, hm⟩ := h.form
  obtain ⟨n, hn⟩ : ∃ n, xs.length = n := ⟨_, rfl⟩
  rw [hn] at h hm ⊢
  have HN := Lib.hid hn
  have HR := Lib.hid h
  have HM := Lib.hid hm
  have B0 : Hid (Below w.heap.size w w) := Below.refl _ _
  clear hn h hm
  by_cases hgt : (32 : Int) < (n : Int)
  · have HF : Hid (allB 32 rightRule xs = false) := allB_len HN.out hgt
    go_enter Try.func40, Try.ntmps40
    go_wp2_with fail
    go_ret
    exact ⟨by rw [HF.out]; rfl, B0.out⟩
  · have hle : (n : Int) ≤ 32 := by omega
    have HLE := Lib.hid hle
    clear hgt
    go_enter Try.func40, Try.ntmps40
    go_wp2_with fail
    go_loopw [3] (fun v wr => LRel rightRule n xs w v wr) (fun v => fun _ => n - (intOf v).toNat)
    case atStart => exact LRel.start B0.out
    case round =>
      clear B0
      obtain ⟨⟨k1, hk, rfl, hall, hb⟩⟩ := hrel
      obtain ⟨wo1, hwo⟩ : ∃ wo, wo = wr := ⟨_, rfl⟩
      subst hwo
      have HK1 := Lib.hid hk
      have HA1 := Lib.hid hall
      have HB1 := Lib.hid hb
      clear hk hall hb
      by_cases hlt : k1 < n
      · have hkI1 : (k1 : Int) < (n : Int) := by omega
        have HX1 : Hid (k1 < n) := hlt
        obtain ⟨hnx, b1, off1, x, cs, hax, hbl, hx, hR, _, hc⟩ := HR.out.at_ k1 hlt
        clear hnx
        subst hax
        have HXS1 := Lib.hid hx
        obtain ⟨qa_1, qb_1, qc_1⟩ := x
        obtain ⟨rfl, _⟩ := hR
        have e0_1 : wo1.cell? ⟨b1, off1 + k1 * 3, none⟩ = some (.int .i64 qa_1) := cell_later HB1.out (hc 0 _ rfl)
        have e1_1 : wo1.cell? ⟨b1, off1 + k1 * 3 + 1, none⟩ = some (.int .i64 qb_1) := cell_later HB1.out (hc 1 _ rfl)
        have e2_1 : wo1.cell? ⟨b1, off1 + k1 * 3 + 2, none⟩ = some (.int .i64 qc_1) := cell_later HB1.out (hc 2 _ rfl)
        clear hc hx
        obtain ⟨t1_0, h1_0⟩ : ∃ t : Bool, inB qa_1 1 27 = t := ⟨_, rfl⟩
        obtain ⟨t1_1, h1_1⟩ : ∃ t : Bool, inB qb_1 0 2 = t := ⟨_, rfl⟩
        obtain ⟨t1_2, h1_2⟩ : ∃ t : Bool, inB qc_1 0 6 = t := ⟨_, rfl⟩
        have HRT1 : Hid (rightRule ⟨qa_1, qb_1, qc_1⟩ = (t1_0 && t1_1 && t1_2)) := by unfold Hid rightRule; dsimp only; rw [h1_0, h1_1, h1_2]
        have C1_0 : Hid (∀ W, Calls Try.prog 39 #[.int .i64 qa_1, .int .i64 1, .int .i64 27] W fun e w' => e = .returned (.bool t1_0) ∧ w' = W) := fun W => by rw [← h1_0]; exact rin_any qa_1 _ _ W
        have C1_1 : Hid (∀ W, Calls Try.prog 39 #[.int .i64 qb_1, .int .i64 0, .int .i64 2] W fun e w' => e = .returned (.bool t1_1) ∧ w' = W) := fun W => by rw [← h1_1]; exact rin_any qb_1 _ _ W
        have C1_2 : Hid (∀ W, Calls Try.prog 39 #[.int .i64 qc_1, .int .i64 0, .int .i64 6] W fun e w' => e = .returned (.bool t1_2) ∧ w' = W) := fun W => by rw [← h1_2]; exact rin_any qc_1 _ _ W
        clear hlt h1_0 h1_1 h1_2
        go_wp2_with fail
        refine (C1_0.out _).mono ?_
        rintro e WQ ⟨rfl, h⟩
        have h := h.symm
        subst h
        cases t1_0 with
        | false =>
          have HE : Hid (xs.all rightRule = false) := all_false HXS1.out (by have e := HRT1.out; simpa using e)
          go_wp2_with fail
          have HF : Hid (allB 32 rightRule xs = false) := allB_el HE.out
          go_ret
          exact ⟨by rw [HF.out]; rfl, HB1.out⟩
        | true =>
          go_wp2_with fail
          refine (C1_1.out _).mono ?_
          rintro e WQ ⟨rfl, h⟩
          have h := h.symm
          subst h
          cases t1_1 with
          | false =>
            have HE : Hid (xs.all rightRule = false) := all_false HXS1.out (by have e := HRT1.out; simpa using e)
            go_wp2_with fail
            have HF : Hid (allB 32 rightRule xs = false) := allB_el HE.out
            go_ret
            exact ⟨by rw [HF.out]; rfl, HB1.out⟩
          | true =>
            go_wp2_with fail
            refine (C1_2.out _).mono ?_
            rintro e WQ ⟨rfl, h⟩
            have h := h.symm
            subst h
            cases t1_2 with
            | false =>
              have HE : Hid (xs.all rightRule = false) := all_false HXS1.out (by have e := HRT1.out; simpa using e)
              go_wp2_with fail
              have HF : Hid (allB 32 rightRule xs = false) := allB_el HE.out
              go_ret
              exact ⟨by rw [HF.out]; rfl, HB1.out⟩
            | true =>
              go_wp2_with fail
              go_roundw
              case rel =>
                have Q : LRel rightRule n xs w (.int .i64 ((k1 : Int) + 1)) wo1 := LRel.next HX1.out HXS1.out (by have e := HRT1.out; simpa using e) HA1.out HB1.out
                first | exact Q | ((repeat apply Exists.intro); exact ⟨Q, rfl⟩)
              case measure => have := HX1.out; simp [intOf]; omega
      · have hkI1 : ¬ (k1 : Int) < (n : Int) := by omega
        have HAll1 : Hid (xs.all rightRule = true) := LRel.done HK1.out HN.out hlt HA1.out
        clear hlt HK1 HA1
        have HF : Hid (allB 32 rightRule xs = true) := allB_ok HN.out HLE.out HAll1.out
        go_wp2_with fail
        go_ret
        exact ⟨by rw [HF.out]; rfl, HB1.out⟩
set_option maxRecDepth 100000 in
set_option maxHeartbeats 4000000 in
theorem rend_core (qa : Int) (qb : Int) (w : World)  :
    Calls Try.prog 42 #[.agg #[.int .i64 qa, .int .i64 qb]] w fun e w' => e = .returned (.bool (rightEnd ⟨qa, qb⟩)) ∧ Below w.heap.size w w' := by
  obtain ⟨t0, h0⟩ : ∃ t : Bool, inB qa (-1) 15 = t := ⟨_, rfl⟩
  obtain ⟨t1, h1⟩ : ∃ t : Bool, inB qb 0 15 = t := ⟨_, rfl⟩
  have HR : Hid (rightEnd ⟨qa, qb⟩ = (t0 && t1)) := by unfold Hid rightEnd; dsimp only; rw [h0, h1]
  have C0 : Hid (∀ W, Calls Try.prog 39 #[.int .i64 qa, .int .i64 (-1), .int .i64 15] W fun e w' => e = .returned (.bool t0) ∧ w' = W) := fun W => by rw [← h0]; exact rin_any qa _ _ W
  have C1 : Hid (∀ W, Calls Try.prog 39 #[.int .i64 qb, .int .i64 0, .int .i64 15] W fun e w' => e = .returned (.bool t1) ∧ w' = W) := fun W => by rw [← h1]; exact rin_any qb _ _ W
  clear h0 h1
  cases t0 with
  | false =>
    go_enter Try.func42, Try.ntmps42
    go_wp2_with fail
    obtain ⟨W0, hW0⟩ : ∃ W0, w.alloc (.cells #[.int .i64 qa, .int .i64 qb] 69) = W0 := ⟨_, rfl⟩
    have d0 : W0.cell? ⟨w.heap.size, 0, none⟩ = some (.int .i64 qa) := by rw [← hW0, World.cell?_alloc_new]; rfl
    have d1 : W0.cell? ⟨w.heap.size, 1, none⟩ = some (.int .i64 qb) := by rw [← hW0, World.cell?_alloc_new]; rfl
    have B0 : Hid (Below w.heap.size w W0) := by rw [← hW0]; exact (Below.refl _ _).alloc (Nat.le_refl _) _
    rw [hW0]
    clear hW0
    refine (C0.out _).mono ?_
    rintro e W ⟨rfl, h⟩
    have h := h.symm
    subst h
    go_wp2_with fail
    go_ret
    exact ⟨by rw [HR.out]; rfl, B0.out⟩
  | true =>
    cases t1 with
    | false =>
      go_enter Try.func42, Try.ntmps42
      go_wp2_with fail
      obtain ⟨W0, hW0⟩ : ∃ W0, w.alloc (.cells #[.int .i64 qa, .int .i64 qb] 69) = W0 := ⟨_, rfl⟩
      have d0 : W0.cell? ⟨w.heap.size, 0, none⟩ = some (.int .i64 qa) := by rw [← hW0, World.cell?_alloc_new]; rfl
      have d1 : W0.cell? ⟨w.heap.size, 1, none⟩ = some (.int .i64 qb) := by rw [← hW0, World.cell?_alloc_new]; rfl
      have B0 : Hid (Below w.heap.size w W0) := by rw [← hW0]; exact (Below.refl _ _).alloc (Nat.le_refl _) _
      rw [hW0]
      clear hW0
      refine (C0.out _).mono ?_
      rintro e W ⟨rfl, h⟩
      have h := h.symm
      subst h
      go_wp2_with fail
      refine (C1.out _).mono ?_
      rintro e W ⟨rfl, h⟩
      have h := h.symm
      subst h
      go_wp2_with fail
      go_ret
      exact ⟨by rw [HR.out]; rfl, B0.out⟩
    | true =>
      go_enter Try.func42, Try.ntmps42
      go_wp2_with fail
      obtain ⟨W0, hW0⟩ : ∃ W0, w.alloc (.cells #[.int .i64 qa, .int .i64 qb] 69) = W0 := ⟨_, rfl⟩
      have d0 : W0.cell? ⟨w.heap.size, 0, none⟩ = some (.int .i64 qa) := by rw [← hW0, World.cell?_alloc_new]; rfl
      have d1 : W0.cell? ⟨w.heap.size, 1, none⟩ = some (.int .i64 qb) := by rw [← hW0, World.cell?_alloc_new]; rfl
      have B0 : Hid (Below w.heap.size w W0) := by rw [← hW0]; exact (Below.refl _ _).alloc (Nat.le_refl _) _
      rw [hW0]
      clear hW0
      refine (C0.out _).mono ?_
      rintro e W ⟨rfl, h⟩
      have h := h.symm
      subst h
      go_wp2_with fail
      refine (C1.out _).mono ?_
      rintro e W ⟨rfl, h⟩
      have h := h.symm
      subst h
      go_wp2_with fail
      go_ret
      exact ⟨by rw [HR.out]; rfl, B0.out⟩
end Go.Proofs.Ytchlgihanogeeaa
