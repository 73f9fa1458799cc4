/-
  What the program's Right answers of Event, Board, Buffer, Port, Rule. Each statement bears its own conditions.
-/
import Derived.Test.YtchlgihanogeeaaAllB
namespace Go.Proofs.Ytchlgihanogeeaa
open Go.RowKit
set_option linter.unusedVariables false
set_option linter.unusedSimpArgs false
def rightEvent (x : MEvent) : Bool := nameB x.qa
set_option maxRecDepth 100000 in
set_option maxHeartbeats 4000000 in
theorem rightEvent_core (qa : ByteArray) (w : World) (hsqa : qa.size ≤ maxLen) :
    Calls Try.prog 92 #[.agg #[.string qa]] w fun e w' => e = .returned (.bool (rightEvent ⟨qa⟩)) ∧ Below w.heap.size w w' := by
  obtain ⟨t0, h0⟩ : ∃ t : Bool, nameB qa = t := ⟨_, rfl⟩
  have HR : Hid (rightEvent ⟨qa⟩ = (t0)) := by unfold Hid rightEvent; dsimp only; rw [h0]
  have C0 : Hid (∀ W, Calls Try.prog 8 #[.string qa] W fun e w' => e = .returned (.bool t0) ∧ w' = W) := fun W => by rw [← h0]; exact name_any qa W hsqa
  clear h0 hsqa
  cases t0 with
  | false =>
    go_enter Try.func92, Try.ntmps92
    go_wp2_with fail
    obtain ⟨W0, hW0⟩ : ∃ W0, w.alloc (.cells #[.string qa] 115) = W0 := ⟨_, rfl⟩
    have d0 : W0.cell? ⟨w.heap.size, 0, none⟩ = some (.string qa) := by rw [← hW0, World.cell?_alloc_new]; rfl
    have B0 : Hid (Below w.heap.size w W0) := by rw [← hW0]; exact (Below.refl _ _).alloc (Nat.le_refl _) _
    rw [hW0]
    clear hW0
    refine (C0.out _).mono ?_
    rintro e W ⟨rfl, h⟩
    have h := h.symm
    subst h
    go_wp2_with fail
    go_ret
    exact ⟨by rw [HR.out]; rfl, B0.out⟩
  | true =>
    go_enter Try.func92, Try.ntmps92
    go_wp2_with fail
    obtain ⟨W0, hW0⟩ : ∃ W0, w.alloc (.cells #[.string qa] 115) = W0 := ⟨_, rfl⟩
    have d0 : W0.cell? ⟨w.heap.size, 0, none⟩ = some (.string qa) := by rw [← hW0, World.cell?_alloc_new]; rfl
    have B0 : Hid (Below w.heap.size w W0) := by rw [← hW0]; exact (Below.refl _ _).alloc (Nat.le_refl _) _
    rw [hW0]
    clear hW0
    refine (C0.out _).mono ?_
    rintro e W ⟨rfl, h⟩
    have h := h.symm
    subst h
    go_wp2_with fail
    go_ret
    exact ⟨by rw [HR.out]; rfl, B0.out⟩
structure AllEventRel (n : Nat) (xs : List MEvent) (w : World) (v : Value) (wr : World) : Prop where
  ex : ∃ k : Nat, k ≤ n ∧ v = .int .i64 (k : Int) ∧ (∀ (j : Nat) y, xs[j]? = some y → j < k → rightEvent y = true) ∧ Below w.heap.size w wr
set_option maxRecDepth 100000 in
set_option maxHeartbeats 4000000 in
theorem allEvent_any (v : Value) (xs : List MEvent) (most : Int) (w : World) (h : Row w 1 REvent v xs) :
    Calls Try.prog 91 #[v, .int .i64 most, .func (.func 92) #[] #[]] w fun e w' => e = .returned (.bool (allB most rightEvent xs)) ∧ Below w.heap.size w w' := by
  obtain ⟨a, cap, rfl, hm⟩ := h.form
  obtain ⟨n, hn⟩ : ∃ n, xs.length = n := ⟨_, rfl⟩
  rw [hn] at h hm ⊢
  have HN := Lib.hid hn
  have H := Lib.hid h
  unfold rowMax at hm
  clear hn h
  by_cases hgt : most < (n : Int)
  · have HR : Hid (allB most rightEvent xs = false) := by unfold Hid allB; rw [HN.out, decide_eq_false (by omega)]; rfl
    go_enter Try.func91, Try.ntmps91
    go_wp2_with fail
    go_ret
    exact ⟨by rw [HR.out]; rfl, Below.refl _ _⟩
  · have hgt' : (n : Int) ≤ most := by omega
    have HR : Hid (allB most rightEvent xs = xs.all rightEvent) := by unfold Hid allB; rw [HN.out, decide_eq_true hgt']; rfl
    go_enter Try.func91, Try.ntmps91
    go_wp2_with fail
    go_loopw [15] (fun v wr => AllEventRel n xs w v wr) (fun v => fun _ => n - (intOf v).toNat)
    case atStart => exact ⟨⟨0, Nat.zero_le _, rfl, fun j y _ h => by omega, Below.refl _ _⟩⟩
    case round =>
      obtain ⟨⟨k, hk, rfl, hall, hb⟩⟩ := hrel
      have HK := Lib.hid hk
      have HA := Lib.hid hall
      have HB := Lib.hid hb
      clear hk hall hb
      by_cases hlt : k < n
      · have hkI : (k : Int) < (n : Int) := by omega
        have HX : Hid (k < n) := hlt
        obtain ⟨hnx, b, off, x, cs, rfl, hbl, hx, hR, _, hc⟩ := H.out.at_ k hlt
        clear hnx
        have HXS := Lib.hid hx
        obtain ⟨qa⟩ := x
        obtain ⟨rfl, hsqa⟩ := hR
        have d0 : wr.cell? ⟨b, off + k, none⟩ = some (.string qa) := cell_later HB.out (by simpa using hc 0 _ rfl)
        obtain ⟨t, ht⟩ : ∃ t, rightEvent ⟨qa⟩ = t := ⟨_, rfl⟩
        have HT := Lib.hid ht
        have C : Hid (Calls Try.prog 92 #[.agg #[.string qa]] (wr.alloc (.cells #[.string qa] 115)) fun e w' => e = .returned (.bool t) ∧ Below (wr.alloc (.cells #[.string qa] 115)).heap.size (wr.alloc (.cells #[.string qa] 115)) w') := by
          unfold Hid
          rw [← ht]; exact rightEvent_core qa  _ hsqa 
        clear hc ht hlt hsqa 
        go_wp2_with fail
        refine C.out.mono ?_
        rintro e W1 ⟨rfl, b1⟩
        have HB1 : Hid (Below w.heap.size w W1) := (HB.out.alloc HB.out.size _).trans (b1.mono (by have := HB.out.size; simp; omega))
        clear b1 C
        cases t with
        | true =>
          go_wp2_with fail
          go_roundw
          case rel =>
            have Q : AllEventRel n xs w (.int .i64 ((k : Int) + 1)) W1 := ⟨⟨k + 1, HX.out, by go_num, fun j y hy hj => by
              by_cases e : j = k
              · subst e
                have e2 := HXS.out.symm.trans hy
                injection e2 with e2
                rw [← e2]; exact HT.out
              · exact HA.out j y hy (by omega), HB1.out⟩⟩
            first | exact Q | ((repeat apply Exists.intro); exact ⟨Q, rfl⟩)
          case measure => have := HX.out; simp [intOf]; omega
        | false =>
          have HF : Hid (xs.all rightEvent = false) := all_false HXS.out HT.out
          go_wp2_with fail
          go_ret
          exact ⟨by rw [HR.out, HF.out]; rfl, HB1.out⟩
      · have hkI : ¬ (k : Int) < (n : Int) := by omega
        have HF : Hid (xs.all rightEvent = true) := all_true fun j y hy => HA.out j y hy (by have h1 := (List.getElem?_eq_some_iff.1 hy).1; have := HN.out; have := HK.out; omega)
        go_wp2_with fail
        go_ret
        exact ⟨by rw [HR.out, HF.out]; rfl, HB.out⟩
def rightBoard (x : MBoard) : Bool := nameB x.qa && inB x.qb 1 32
set_option maxRecDepth 100000 in
set_option maxHeartbeats 4000000 in
theorem rightBoard_core (qa : ByteArray) (qb : Int) (w : World) (hsqa : qa.size ≤ maxLen) :
    Calls Try.prog 94 #[.agg #[.string qa, .int .i64 qb]] w fun e w' => e = .returned (.bool (rightBoard ⟨qa, qb⟩)) ∧ Below w.heap.size w w' := by
  obtain ⟨t0, h0⟩ : ∃ t : Bool, nameB qa = t := ⟨_, rfl⟩
  obtain ⟨t1, h1⟩ : ∃ t : Bool, inB qb 1 32 = t := ⟨_, rfl⟩
  have HR : Hid (rightBoard ⟨qa, qb⟩ = (t0 && t1)) := by unfold Hid rightBoard; dsimp only; rw [h0, h1]
  have C0 : Hid (∀ W, Calls Try.prog 8 #[.string qa] W fun e w' => e = .returned (.bool t0) ∧ w' = W) := fun W => by rw [← h0]; exact name_any qa W hsqa
  have C1 : Hid (∀ W, Calls Try.prog 28 #[.int .i64 qb, .int .i64 1, .int .i64 32] W fun e w' => e = .returned (.bool t1) ∧ w' = W) := fun W => by rw [← h1]; exact within_any qb _ _ W
  clear h0 h1 hsqa
  cases t0 with
  | false =>
    go_enter Try.func94, Try.ntmps94
    go_wp2_with fail
    obtain ⟨W0, hW0⟩ : ∃ W0, w.alloc (.cells #[.string qa, .int .i64 qb] 117) = W0 := ⟨_, rfl⟩
    have d0 : W0.cell? ⟨w.heap.size, 0, none⟩ = some (.string qa) := by rw [← hW0, World.cell?_alloc_new]; rfl
    have d1 : W0.cell? ⟨w.heap.size, 1, none⟩ = some (.int .i64 qb) := by rw [← hW0, World.cell?_alloc_new]; rfl
    have B0 : Hid (Below w.heap.size w W0) := by rw [← hW0]; exact (Below.refl _ _).alloc (Nat.le_refl _) _
    rw [hW0]
    clear hW0
    refine (C0.out _).mono ?_
    rintro e W ⟨rfl, h⟩
    have h := h.symm
    subst h
    go_wp2_with fail
    go_ret
    exact ⟨by rw [HR.out]; rfl, B0.out⟩
  | true =>
    cases t1 with
    | false =>
      go_enter Try.func94, Try.ntmps94
      go_wp2_with fail
      obtain ⟨W0, hW0⟩ : ∃ W0, w.alloc (.cells #[.string qa, .int .i64 qb] 117) = W0 := ⟨_, rfl⟩
      have d0 : W0.cell? ⟨w.heap.size, 0, none⟩ = some (.string qa) := by rw [← hW0, World.cell?_alloc_new]; rfl
      have d1 : W0.cell? ⟨w.heap.size, 1, none⟩ = some (.int .i64 qb) := by rw [← hW0, World.cell?_alloc_new]; rfl
      have B0 : Hid (Below w.heap.size w W0) := by rw [← hW0]; exact (Below.refl _ _).alloc (Nat.le_refl _) _
      rw [hW0]
      clear hW0
      refine (C0.out _).mono ?_
      rintro e W ⟨rfl, h⟩
      have h := h.symm
      subst h
      go_wp2_with fail
      refine (C1.out _).mono ?_
      rintro e W ⟨rfl, h⟩
      have h := h.symm
      subst h
      go_wp2_with fail
      go_ret
      exact ⟨by rw [HR.out]; rfl, B0.out⟩
    | true =>
      go_enter Try.func94, Try.ntmps94
      go_wp2_with fail
      obtain ⟨W0, hW0⟩ : ∃ W0, w.alloc (.cells #[.string qa, .int .i64 qb] 117) = W0 := ⟨_, rfl⟩
      have d0 : W0.cell? ⟨w.heap.size, 0, none⟩ = some (.string qa) := by rw [← hW0, World.cell?_alloc_new]; rfl
      have d1 : W0.cell? ⟨w.heap.size, 1, none⟩ = some (.int .i64 qb) := by rw [← hW0, World.cell?_alloc_new]; rfl
      have B0 : Hid (Below w.heap.size w W0) := by rw [← hW0]; exact (Below.refl _ _).alloc (Nat.le_refl _) _
      rw [hW0]
      clear hW0
      refine (C0.out _).mono ?_
      rintro e W ⟨rfl, h⟩
      have h := h.symm
      subst h
      go_wp2_with fail
      refine (C1.out _).mono ?_
      rintro e W ⟨rfl, h⟩
      have h := h.symm
      subst h
      go_wp2_with fail
      go_ret
      exact ⟨by rw [HR.out]; rfl, B0.out⟩
structure AllBoardRel (n : Nat) (xs : List MBoard) (w : World) (v : Value) (wr : World) : Prop where
  ex : ∃ k : Nat, k ≤ n ∧ v = .int .i64 (k : Int) ∧ (∀ (j : Nat) y, xs[j]? = some y → j < k → rightBoard y = true) ∧ Below w.heap.size w wr
set_option maxRecDepth 100000 in
set_option maxHeartbeats 4000000 in
theorem allBoard_any (v : Value) (xs : List MBoard) (most : Int) (w : World) (h : Row w 2 RBoard v xs) :
    Calls Try.prog 93 #[v, .int .i64 most, .func (.func 94) #[] #[]] w fun e w' => e = .returned (.bool (allB most rightBoard xs)) ∧ Below w.heap.size w w' := by
  obtain ⟨a, cap, rfl, hm⟩ := h.form
  obtain ⟨n, hn⟩ : ∃ n, xs.length = n := ⟨_, rfl⟩
  rw [hn] at h hm ⊢
  have HN := Lib.hid hn
  have H := Lib.hid h
  unfold rowMax at hm
  clear hn h
  by_cases hgt : most < (n : Int)
  · have HR : Hid (allB most rightBoard xs = false) := by unfold Hid allB; rw [HN.out, decide_eq_false (by omega)]; rfl
    go_enter Try.func93, Try.ntmps93
    go_wp2_with fail
    go_ret
    exact ⟨by rw [HR.out]; rfl, Below.refl _ _⟩
  · have hgt' : (n : Int) ≤ most := by omega
    have HR : Hid (allB most rightBoard xs = xs.all rightBoard) := by unfold Hid allB; rw [HN.out, decide_eq_true hgt']; rfl
    go_enter Try.func93, Try.ntmps93
    go_wp2_with fail
    go_loopw [15] (fun v wr => AllBoardRel n xs w v wr) (fun v => fun _ => n - (intOf v).toNat)
    case atStart => exact ⟨⟨0, Nat.zero_le _, rfl, fun j y _ h => by omega, Below.refl _ _⟩⟩
    case round =>
      obtain ⟨⟨k, hk, rfl, hall, hb⟩⟩ := hrel
      have HK := Lib.hid hk
      have HA := Lib.hid hall
      have HB := Lib.hid hb
      clear hk hall hb
      by_cases hlt : k < n
      · have hkI : (k : Int) < (n : Int) := by omega
        have HX : Hid (k < n) := hlt
        obtain ⟨hnx, b, off, x, cs, rfl, hbl, hx, hR, _, hc⟩ := H.out.at_ k hlt
        clear hnx
        have HXS := Lib.hid hx
        obtain ⟨qa, qb⟩ := x
        obtain ⟨rfl, hsqa⟩ := hR
        have d0 : wr.cell? ⟨b, off + k * 2, none⟩ = some (.string qa) := cell_later HB.out (hc 0 _ rfl)
        have d1 : wr.cell? ⟨b, off + k * 2 + 1, none⟩ = some (.int .i64 qb) := cell_later HB.out (hc 1 _ rfl)
        obtain ⟨t, ht⟩ : ∃ t, rightBoard ⟨qa, qb⟩ = t := ⟨_, rfl⟩
        have HT := Lib.hid ht
        have C : Hid (Calls Try.prog 94 #[.agg #[.string qa, .int .i64 qb]] (wr.alloc (.cells #[.string qa, .int .i64 qb] 117)) fun e w' => e = .returned (.bool t) ∧ Below (wr.alloc (.cells #[.string qa, .int .i64 qb] 117)).heap.size (wr.alloc (.cells #[.string qa, .int .i64 qb] 117)) w') := by
          unfold Hid
          rw [← ht]; exact rightBoard_core qa qb  _ hsqa 
        clear hc ht hlt hsqa 
        go_wp2_with fail
        refine C.out.mono ?_
        rintro e W1 ⟨rfl, b1⟩
        have HB1 : Hid (Below w.heap.size w W1) := (HB.out.alloc HB.out.size _).trans (b1.mono (by have := HB.out.size; simp; omega))
        clear b1 C
        cases t with
        | true =>
          go_wp2_with fail
          go_roundw
          case rel =>
            have Q : AllBoardRel n xs w (.int .i64 ((k : Int) + 1)) W1 := ⟨⟨k + 1, HX.out, by go_num, fun j y hy hj => by
              by_cases e : j = k
              · subst e
                have e2 := HXS.out.symm.trans hy
                injection e2 with e2
                rw [← e2]; exact HT.out
              · exact HA.out j y hy (by omega), HB1.out⟩⟩
            first | exact Q | ((repeat apply Exists.intro); exact ⟨Q, rfl⟩)
          case measure => have := HX.out; simp [intOf]; omega
        | false =>
          have HF : Hid (xs.all rightBoard = false) := all_false HXS.out HT.out
          go_wp2_with fail
          go_ret
          exact ⟨by rw [HR.out, HF.out]; rfl, HB1.out⟩
      · have hkI : ¬ (k : Int) < (n : Int) := by omega
        have HF : Hid (xs.all rightBoard = true) := all_true fun j y hy => HA.out j y hy (by have h1 := (List.getElem?_eq_some_iff.1 hy).1; have := HN.out; have := HK.out; omega)
        go_wp2_with fail
        go_ret
        exact ⟨by rw [HR.out, HF.out]; rfl, HB.out⟩
def rightBuffer (x : MBuffer) : Bool := nameB x.qa && inB x.qb 1 32 && inB x.qc 1 32
set_option maxRecDepth 100000 in
set_option maxHeartbeats 4000000 in
theorem rightBuffer_core (qa : ByteArray) (qb : Int) (qc : Int) (qd : Bool) (w : World) (hsqa : qa.size ≤ maxLen) :
    Calls Try.prog 96 #[.agg #[.string qa, .int .i64 qb, .int .i64 qc, .bool qd]] w fun e w' => e = .returned (.bool (rightBuffer ⟨qa, qb, qc, qd⟩)) ∧ Below w.heap.size w w' := by
  obtain ⟨t0, h0⟩ : ∃ t : Bool, nameB qa = t := ⟨_, rfl⟩
  obtain ⟨t1, h1⟩ : ∃ t : Bool, inB qb 1 32 = t := ⟨_, rfl⟩
  obtain ⟨t2, h2⟩ : ∃ t : Bool, inB qc 1 32 = t := ⟨_, rfl⟩
  have HR : Hid (rightBuffer ⟨qa, qb, qc, qd⟩ = (t0 && t1 && t2)) := by unfold Hid rightBuffer; dsimp only; rw [h0, h1, h2]
  have C0 : Hid (∀ W, Calls Try.prog 8 #[.string qa] W fun e w' => e = .returned (.bool t0) ∧ w' = W) := fun W => by rw [← h0]; exact name_any qa W hsqa
  have C1 : Hid (∀ W, Calls Try.prog 28 #[.int .i64 qb, .int .i64 1, .int .i64 32] W fun e w' => e = .returned (.bool t1) ∧ w' = W) := fun W => by rw [← h1]; exact within_any qb _ _ W
  have C2 : Hid (∀ W, Calls Try.prog 28 #[.int .i64 qc, .int .i64 1, .int .i64 32] W fun e w' => e = .returned (.bool t2) ∧ w' = W) := fun W => by rw [← h2]; exact within_any qc _ _ W
  clear h0 h1 h2 hsqa
  cases t0 with
  | false =>
    go_enter Try.func96, Try.ntmps96
    go_wp2_with fail
    obtain ⟨W0, hW0⟩ : ∃ W0, w.alloc (.cells #[.string qa, .int .i64 qb, .int .i64 qc, .bool qd] 119) = W0 := ⟨_, rfl⟩
    have d0 : W0.cell? ⟨w.heap.size, 0, none⟩ = some (.string qa) := by rw [← hW0, World.cell?_alloc_new]; rfl
    have d1 : W0.cell? ⟨w.heap.size, 1, none⟩ = some (.int .i64 qb) := by rw [← hW0, World.cell?_alloc_new]; rfl
    have d2 : W0.cell? ⟨w.heap.size, 2, none⟩ = some (.int .i64 qc) := by rw [← hW0, World.cell?_alloc_new]; rfl
    have d3 : W0.cell? ⟨w.heap.size, 3, none⟩ = some (.bool qd) := by rw [← hW0, World.cell?_alloc_new]; rfl
    have B0 : Hid (Below w.heap.size w W0) := by rw [← hW0]; exact (Below.refl _ _).alloc (Nat.le_refl _) _
    rw [hW0]
    clear hW0
    refine (C0.out _).mono ?_
    rintro e W ⟨rfl, h⟩
    have h := h.symm
    subst h
    go_wp2_with fail
    go_ret
    exact ⟨by rw [HR.out]; rfl, B0.out⟩
  | true =>
    cases t1 with
    | false =>
      go_enter Try.func96, Try.ntmps96
      go_wp2_with fail
      obtain ⟨W0, hW0⟩ : ∃ W0, w.alloc (.cells #[.string qa, .int .i64 qb, .int .i64 qc, .bool qd] 119) = W0 := ⟨_, rfl⟩
      have d0 : W0.cell? ⟨w.heap.size, 0, none⟩ = some (.string qa) := by rw [← hW0, World.cell?_alloc_new]; rfl
      have d1 : W0.cell? ⟨w.heap.size, 1, none⟩ = some (.int .i64 qb) := by rw [← hW0, World.cell?_alloc_new]; rfl
      have d2 : W0.cell? ⟨w.heap.size, 2, none⟩ = some (.int .i64 qc) := by rw [← hW0, World.cell?_alloc_new]; rfl
      have d3 : W0.cell? ⟨w.heap.size, 3, none⟩ = some (.bool qd) := by rw [← hW0, World.cell?_alloc_new]; rfl
      have B0 : Hid (Below w.heap.size w W0) := by rw [← hW0]; exact (Below.refl _ _).alloc (Nat.le_refl _) _
      rw [hW0]
      clear hW0
      refine (C0.out _).mono ?_
      rintro e W ⟨rfl, h⟩
      have h := h.symm
      subst h
      go_wp2_with fail
      refine (C1.out _).mono ?_
      rintro e W ⟨rfl, h⟩
      have h := h.symm
      subst h
      go_wp2_with fail
      go_ret
      exact ⟨by rw [HR.out]; rfl, B0.out⟩
    | true =>
      cases t2 with
      | false =>
        go_enter Try.func96, Try.ntmps96
        go_wp2_with fail
        obtain ⟨W0, hW0⟩ : ∃ W0, w.alloc (.cells #[.string qa, .int .i64 qb, .int .i64 qc, .bool qd] 119) = W0 := ⟨_, rfl⟩
        have d0 : W0.cell? ⟨w.heap.size, 0, none⟩ = some (.string qa) := by rw [← hW0, World.cell?_alloc_new]; rfl
        have d1 : W0.cell? ⟨w.heap.size, 1, none⟩ = some (.int .i64 qb) := by rw [← hW0, World.cell?_alloc_new]; rfl
        have d2 : W0.cell? ⟨w.heap.size, 2, none⟩ = some (.int .i64 qc) := by rw [← hW0, World.cell?_alloc_new]; rfl
        have d3 : W0.cell? ⟨w.heap.size, 3, none⟩ = some (.bool qd) := by rw [← hW0, World.cell?_alloc_new]; rfl
        have B0 : Hid (Below w.heap.size w W0) := by rw [← hW0]; exact (Below.refl _ _).alloc (Nat.le_refl _) _
        rw [hW0]
        clear hW0
        refine (C0.out _).mono ?_
        rintro e W ⟨rfl, h⟩
        have h := h.symm
        subst h
        go_wp2_with fail
        refine (C1.out _).mono ?_
        rintro e W ⟨rfl, h⟩
        have h := h.symm
        subst h
        go_wp2_with fail
        refine (C2.out _).mono ?_
        rintro e W ⟨rfl, h⟩
        have h := h.symm
        subst h
        go_wp2_with fail
        go_ret
        exact ⟨by rw [HR.out]; rfl, B0.out⟩
      | true =>
        go_enter Try.func96, Try.ntmps96
        go_wp2_with fail
        obtain ⟨W0, hW0⟩ : ∃ W0, w.alloc (.cells #[.string qa, .int .i64 qb, .int .i64 qc, .bool qd] 119) = W0 := ⟨_, rfl⟩
        have d0 : W0.cell? ⟨w.heap.size, 0, none⟩ = some (.string qa) := by rw [← hW0, World.cell?_alloc_new]; rfl
        have d1 : W0.cell? ⟨w.heap.size, 1, none⟩ = some (.int .i64 qb) := by rw [← hW0, World.cell?_alloc_new]; rfl
        have d2 : W0.cell? ⟨w.heap.size, 2, none⟩ = some (.int .i64 qc) := by rw [← hW0, World.cell?_alloc_new]; rfl
        have d3 : W0.cell? ⟨w.heap.size, 3, none⟩ = some (.bool qd) := by rw [← hW0, World.cell?_alloc_new]; rfl
        have B0 : Hid (Below w.heap.size w W0) := by rw [← hW0]; exact (Below.refl _ _).alloc (Nat.le_refl _) _
        rw [hW0]
        clear hW0
        refine (C0.out _).mono ?_
        rintro e W ⟨rfl, h⟩
        have h := h.symm
        subst h
        go_wp2_with fail
        refine (C1.out _).mono ?_
        rintro e W ⟨rfl, h⟩
        have h := h.symm
        subst h
        go_wp2_with fail
        refine (C2.out _).mono ?_
        rintro e W ⟨rfl, h⟩
        have h := h.symm
        subst h
        go_wp2_with fail
        go_ret
        exact ⟨by rw [HR.out]; rfl, B0.out⟩
structure AllBufferRel (n : Nat) (xs : List MBuffer) (w : World) (v : Value) (wr : World) : Prop where
  ex : ∃ k : Nat, k ≤ n ∧ v = .int .i64 (k : Int) ∧ (∀ (j : Nat) y, xs[j]? = some y → j < k → rightBuffer y = true) ∧ Below w.heap.size w wr
set_option maxRecDepth 100000 in
set_option maxHeartbeats 4000000 in
theorem allBuffer_any (v : Value) (xs : List MBuffer) (most : Int) (w : World) (h : Row w 4 RBuffer v xs) :
    Calls Try.prog 95 #[v, .int .i64 most, .func (.func 96) #[] #[]] w fun e w' => e = .returned (.bool (allB most rightBuffer xs)) ∧ Below w.heap.size w w' := by
  obtain ⟨a, cap, rfl, hm⟩ := h.form
  obtain ⟨n, hn⟩ : ∃ n, xs.length = n := ⟨_, rfl⟩
  rw [hn] at h hm ⊢
  have HN := Lib.hid hn
  have H := Lib.hid h
  unfold rowMax at hm
  clear hn h
  by_cases hgt : most < (n : Int)
  · have HR : Hid (allB most rightBuffer xs = false) := by unfold Hid allB; rw [HN.out, decide_eq_false (by omega)]; rfl
    go_enter Try.func95, Try.ntmps95
    go_wp2_with fail
    go_ret
    exact ⟨by rw [HR.out]; rfl, Below.refl _ _⟩
  · have hgt' : (n : Int) ≤ most := by omega
    have HR : Hid (allB most rightBuffer xs = xs.all rightBuffer) := by unfold Hid allB; rw [HN.out, decide_eq_true hgt']; rfl
    go_enter Try.func95, Try.ntmps95
    go_wp2_with fail
    go_loopw [15] (fun v wr => AllBufferRel n xs w v wr) (fun v => fun _ => n - (intOf v).toNat)
    case atStart => exact ⟨⟨0, Nat.zero_le _, rfl, fun j y _ h => by omega, Below.refl _ _⟩⟩
    case round =>
      obtain ⟨⟨k, hk, rfl, hall, hb⟩⟩ := hrel
      have HK := Lib.hid hk
      have HA := Lib.hid hall
      have HB := Lib.hid hb
      clear hk hall hb
      by_cases hlt : k < n
      · have hkI : (k : Int) < (n : Int) := by omega
        have HX : Hid (k < n) := hlt
        obtain ⟨hnx, b, off, x, cs, rfl, hbl, hx, hR, _, hc⟩ := H.out.at_ k hlt
        clear hnx
        have HXS := Lib.hid hx
        obtain ⟨qa, qb, qc, qd⟩ := x
        obtain ⟨rfl, hsqa⟩ := hR
        have d0 : wr.cell? ⟨b, off + k * 4, none⟩ = some (.string qa) := cell_later HB.out (hc 0 _ rfl)
        have d1 : wr.cell? ⟨b, off + k * 4 + 1, none⟩ = some (.int .i64 qb) := cell_later HB.out (hc 1 _ rfl)
        have d2 : wr.cell? ⟨b, off + k * 4 + 2, none⟩ = some (.int .i64 qc) := cell_later HB.out (hc 2 _ rfl)
        have d3 : wr.cell? ⟨b, off + k * 4 + 3, none⟩ = some (.bool qd) := cell_later HB.out (hc 3 _ rfl)
        obtain ⟨t, ht⟩ : ∃ t, rightBuffer ⟨qa, qb, qc, qd⟩ = t := ⟨_, rfl⟩
        have HT := Lib.hid ht
        have C : Hid (Calls Try.prog 96 #[.agg #[.string qa, .int .i64 qb, .int .i64 qc, .bool qd]] (wr.alloc (.cells #[.string qa, .int .i64 qb, .int .i64 qc, .bool qd] 119)) fun e w' => e = .returned (.bool t) ∧ Below (wr.alloc (.cells #[.string qa, .int .i64 qb, .int .i64 qc, .bool qd] 119)).heap.size (wr.alloc (.cells #[.string qa, .int .i64 qb, .int .i64 qc, .bool qd] 119)) w') := by
          unfold Hid
          rw [← ht]; exact rightBuffer_core qa qb qc qd  _ hsqa 
        clear hc ht hlt hsqa 
        go_wp2_with fail
        refine C.out.mono ?_
        rintro e W1 ⟨rfl, b1⟩
        have HB1 : Hid (Below w.heap.size w W1) := (HB.out.alloc HB.out.size _).trans (b1.mono (by have := HB.out.size; simp; omega))
        clear b1 C
        cases t with
        | true =>
          go_wp2_with fail
          go_roundw
          case rel =>
            have Q : AllBufferRel n xs w (.int .i64 ((k : Int) + 1)) W1 := ⟨⟨k + 1, HX.out, by go_num, fun j y hy hj => by
              by_cases e : j = k
              · subst e
                have e2 := HXS.out.symm.trans hy
                injection e2 with e2
                rw [← e2]; exact HT.out
              · exact HA.out j y hy (by omega), HB1.out⟩⟩
            first | exact Q | ((repeat apply Exists.intro); exact ⟨Q, rfl⟩)
          case measure => have := HX.out; simp [intOf]; omega
        | false =>
          have HF : Hid (xs.all rightBuffer = false) := all_false HXS.out HT.out
          go_wp2_with fail
          go_ret
          exact ⟨by rw [HR.out, HF.out]; rfl, HB1.out⟩
      · have hkI : ¬ (k : Int) < (n : Int) := by omega
        have HF : Hid (xs.all rightBuffer = true) := all_true fun j y hy => HA.out j y hy (by have h1 := (List.getElem?_eq_some_iff.1 hy).1; have := HN.out; have := HK.out; omega)
        go_wp2_with fail
        go_ret
        exact ⟨by rw [HR.out, HF.out]; rfl, HB.out⟩
def rightPort (x : MPort) : Bool := nameB x.qa && inB x.qd 1 32 && inB x.qe 0 32 && inB x.qf 0 1048576
set_option maxRecDepth 100000 in
set_option maxHeartbeats 4000000 in
theorem rightPort_core (qa : ByteArray) (qb : Bool) (qc : Bool) (qd : Int) (qe : Int) (qf : Int) (w : World) (hsqa : qa.size ≤ maxLen) :
    Calls Try.prog 98 #[.agg #[.string qa, .bool qb, .bool qc, .int .i64 qd, .int .i64 qe, .int .i64 qf]] w fun e w' => e = .returned (.bool (rightPort ⟨qa, qb, qc, qd, qe, qf⟩)) ∧ Below w.heap.size w w' := by
  obtain ⟨t0, h0⟩ : ∃ t : Bool, nameB qa = t := ⟨_, rfl⟩
  obtain ⟨t1, h1⟩ : ∃ t : Bool, inB qd 1 32 = t := ⟨_, rfl⟩
  obtain ⟨t2, h2⟩ : ∃ t : Bool, inB qe 0 32 = t := ⟨_, rfl⟩
  obtain ⟨t3, h3⟩ : ∃ t : Bool, inB qf 0 1048576 = t := ⟨_, rfl⟩
  have HR : Hid (rightPort ⟨qa, qb, qc, qd, qe, qf⟩ = (t0 && t1 && t2 && t3)) := by unfold Hid rightPort; dsimp only; rw [h0, h1, h2, h3]
  have C0 : Hid (∀ W, Calls Try.prog 8 #[.string qa] W fun e w' => e = .returned (.bool t0) ∧ w' = W) := fun W => by rw [← h0]; exact name_any qa W hsqa
  have C1 : Hid (∀ W, Calls Try.prog 28 #[.int .i64 qd, .int .i64 1, .int .i64 32] W fun e w' => e = .returned (.bool t1) ∧ w' = W) := fun W => by rw [← h1]; exact within_any qd _ _ W
  have C2 : Hid (∀ W, Calls Try.prog 28 #[.int .i64 qe, .int .i64 0, .int .i64 32] W fun e w' => e = .returned (.bool t2) ∧ w' = W) := fun W => by rw [← h2]; exact within_any qe _ _ W
  have C3 : Hid (∀ W, Calls Try.prog 28 #[.int .i64 qf, .int .i64 0, .int .i64 1048576] W fun e w' => e = .returned (.bool t3) ∧ w' = W) := fun W => by rw [← h3]; exact within_any qf _ _ W
  clear h0 h1 h2 h3 hsqa
  cases t0 with
  | false =>
    go_enter Try.func98, Try.ntmps98
    go_wp2_with fail
    obtain ⟨W0, hW0⟩ : ∃ W0, w.alloc (.cells #[.string qa, .bool qb, .bool qc, .int .i64 qd, .int .i64 qe, .int .i64 qf] 57) = W0 := ⟨_, rfl⟩
    have d0 : W0.cell? ⟨w.heap.size, 0, none⟩ = some (.string qa) := by rw [← hW0, World.cell?_alloc_new]; rfl
    have d1 : W0.cell? ⟨w.heap.size, 1, none⟩ = some (.bool qb) := by rw [← hW0, World.cell?_alloc_new]; rfl
    have d2 : W0.cell? ⟨w.heap.size, 2, none⟩ = some (.bool qc) := by rw [← hW0, World.cell?_alloc_new]; rfl
    have d3 : W0.cell? ⟨w.heap.size, 3, none⟩ = some (.int .i64 qd) := by rw [← hW0, World.cell?_alloc_new]; rfl
    have d4 : W0.cell? ⟨w.heap.size, 4, none⟩ = some (.int .i64 qe) := by rw [← hW0, World.cell?_alloc_new]; rfl
    have d5 : W0.cell? ⟨w.heap.size, 5, none⟩ = some (.int .i64 qf) := by rw [← hW0, World.cell?_alloc_new]; rfl
    have B0 : Hid (Below w.heap.size w W0) := by rw [← hW0]; exact (Below.refl _ _).alloc (Nat.le_refl _) _
    rw [hW0]
    clear hW0
    refine (C0.out _).mono ?_
    rintro e W ⟨rfl, h⟩
    have h := h.symm
    subst h
    go_wp2_with fail
    go_ret
    exact ⟨by rw [HR.out]; rfl, B0.out⟩
  | true =>
    cases t1 with
    | false =>
      go_enter Try.func98, Try.ntmps98
      go_wp2_with fail
      obtain ⟨W0, hW0⟩ : ∃ W0, w.alloc (.cells #[.string qa, .bool qb, .bool qc, .int .i64 qd, .int .i64 qe, .int .i64 qf] 57) = W0 := ⟨_, rfl⟩
      have d0 : W0.cell? ⟨w.heap.size, 0, none⟩ = some (.string qa) := by rw [← hW0, World.cell?_alloc_new]; rfl
      have d1 : W0.cell? ⟨w.heap.size, 1, none⟩ = some (.bool qb) := by rw [← hW0, World.cell?_alloc_new]; rfl
      have d2 : W0.cell? ⟨w.heap.size, 2, none⟩ = some (.bool qc) := by rw [← hW0, World.cell?_alloc_new]; rfl
      have d3 : W0.cell? ⟨w.heap.size, 3, none⟩ = some (.int .i64 qd) := by rw [← hW0, World.cell?_alloc_new]; rfl
      have d4 : W0.cell? ⟨w.heap.size, 4, none⟩ = some (.int .i64 qe) := by rw [← hW0, World.cell?_alloc_new]; rfl
      have d5 : W0.cell? ⟨w.heap.size, 5, none⟩ = some (.int .i64 qf) := by rw [← hW0, World.cell?_alloc_new]; rfl
      have B0 : Hid (Below w.heap.size w W0) := by rw [← hW0]; exact (Below.refl _ _).alloc (Nat.le_refl _) _
      rw [hW0]
      clear hW0
      refine (C0.out _).mono ?_
      rintro e W ⟨rfl, h⟩
      have h := h.symm
      subst h
      go_wp2_with fail
      refine (C1.out _).mono ?_
      rintro e W ⟨rfl, h⟩
      have h := h.symm
      subst h
      go_wp2_with fail
      go_ret
      exact ⟨by rw [HR.out]; rfl, B0.out⟩
    | true =>
      cases t2 with
      | false =>
        go_enter Try.func98, Try.ntmps98
        go_wp2_with fail
        obtain ⟨W0, hW0⟩ : ∃ W0, w.alloc (.cells #[.string qa, .bool qb, .bool qc, .int .i64 qd, .int .i64 qe, .int .i64 qf] 57) = W0 := ⟨_, rfl⟩
        have d0 : W0.cell? ⟨w.heap.size, 0, none⟩ = some (.string qa) := by rw [← hW0, World.cell?_alloc_new]; rfl
        have d1 : W0.cell? ⟨w.heap.size, 1, none⟩ = some (.bool qb) := by rw [← hW0, World.cell?_alloc_new]; rfl
        have d2 : W0.cell? ⟨w.heap.size, 2, none⟩ = some (.bool qc) := by rw [← hW0, World.cell?_alloc_new]; rfl
        have d3 : W0.cell? ⟨w.heap.size, 3, none⟩ = some (.int .i64 qd) := by rw [← hW0, World.cell?_alloc_new]; rfl
        have d4 : W0.cell? ⟨w.heap.size, 4, none⟩ = some (.int .i64 qe) := by rw [← hW0, World.cell?_alloc_new]; rfl
        have d5 : W0.cell? ⟨w.heap.size, 5, none⟩ = some (.int .i64 qf) := by rw [← hW0, World.cell?_alloc_new]; rfl
        have B0 : Hid (Below w.heap.size w W0) := by rw [← hW0]; exact (Below.refl _ _).alloc (Nat.le_refl _) _
        rw [hW0]
        clear hW0
        refine (C0.out _).mono ?_
        rintro e W ⟨rfl, h⟩
        have h := h.symm
        subst h
        go_wp2_with fail
        refine (C1.out _).mono ?_
        rintro e W ⟨rfl, h⟩
        have h := h.symm
        subst h
        go_wp2_with fail
        refine (C2.out _).mono ?_
        rintro e W ⟨rfl, h⟩
        have h := h.symm
        subst h
        go_wp2_with fail
        go_ret
        exact ⟨by rw [HR.out]; rfl, B0.out⟩
      | true =>
        cases t3 with
        | false =>
          go_enter Try.func98, Try.ntmps98
          go_wp2_with fail
          obtain ⟨W0, hW0⟩ : ∃ W0, w.alloc (.cells #[.string qa, .bool qb, .bool qc, .int .i64 qd, .int .i64 qe, .int .i64 qf] 57) = W0 := ⟨_, rfl⟩
          have d0 : W0.cell? ⟨w.heap.size, 0, none⟩ = some (.string qa) := by rw [← hW0, World.cell?_alloc_new]; rfl
          have d1 : W0.cell? ⟨w.heap.size, 1, none⟩ = some (.bool qb) := by rw [← hW0, World.cell?_alloc_new]; rfl
          have d2 : W0.cell? ⟨w.heap.size, 2, none⟩ = some (.bool qc) := by rw [← hW0, World.cell?_alloc_new]; rfl
          have d3 : W0.cell? ⟨w.heap.size, 3, none⟩ = some (.int .i64 qd) := by rw [← hW0, World.cell?_alloc_new]; rfl
          have d4 : W0.cell? ⟨w.heap.size, 4, none⟩ = some (.int .i64 qe) := by rw [← hW0, World.cell?_alloc_new]; rfl
          have d5 : W0.cell? ⟨w.heap.size, 5, none⟩ = some (.int .i64 qf) := by rw [← hW0, World.cell?_alloc_new]; rfl
          have B0 : Hid (Below w.heap.size w W0) := by rw [← hW0]; exact (Below.refl _ _).alloc (Nat.le_refl _) _
          rw [hW0]
          clear hW0
          refine (C0.out _).mono ?_
          rintro e W ⟨rfl, h⟩
          have h := h.symm
          subst h
          go_wp2_with fail
          refine (C1.out _).mono ?_
          rintro e W ⟨rfl, h⟩
          have h := h.symm
          subst h
          go_wp2_with fail
          refine (C2.out _).mono ?_
          rintro e W ⟨rfl, h⟩
          have h := h.symm
          subst h
          go_wp2_with fail
          refine (C3.out _).mono ?_
          rintro e W ⟨rfl, h⟩
          have h := h.symm
          subst h
          go_wp2_with fail
          go_ret
          exact ⟨by rw [HR.out]; rfl, B0.out⟩
        | true =>
          go_enter Try.func98, Try.ntmps98
          go_wp2_with fail
          obtain ⟨W0, hW0⟩ : ∃ W0, w.alloc (.cells #[.string qa, .bool qb, .bool qc, .int .i64 qd, .int .i64 qe, .int .i64 qf] 57) = W0 := ⟨_, rfl⟩
          have d0 : W0.cell? ⟨w.heap.size, 0, none⟩ = some (.string qa) := by rw [← hW0, World.cell?_alloc_new]; rfl
          have d1 : W0.cell? ⟨w.heap.size, 1, none⟩ = some (.bool qb) := by rw [← hW0, World.cell?_alloc_new]; rfl
          have d2 : W0.cell? ⟨w.heap.size, 2, none⟩ = some (.bool qc) := by rw [← hW0, World.cell?_alloc_new]; rfl
          have d3 : W0.cell? ⟨w.heap.size, 3, none⟩ = some (.int .i64 qd) := by rw [← hW0, World.cell?_alloc_new]; rfl
          have d4 : W0.cell? ⟨w.heap.size, 4, none⟩ = some (.int .i64 qe) := by rw [← hW0, World.cell?_alloc_new]; rfl
          have d5 : W0.cell? ⟨w.heap.size, 5, none⟩ = some (.int .i64 qf) := by rw [← hW0, World.cell?_alloc_new]; rfl
          have B0 : Hid (Below w.heap.size w W0) := by rw [← hW0]; exact (Below.refl _ _).alloc (Nat.le_refl _) _
          rw [hW0]
          clear hW0
          refine (C0.out _).mono ?_
          rintro e W ⟨rfl, h⟩
          have h := h.symm
          subst h
          go_wp2_with fail
          refine (C1.out _).mono ?_
          rintro e W ⟨rfl, h⟩
          have h := h.symm
          subst h
          go_wp2_with fail
          refine (C2.out _).mono ?_
          rintro e W ⟨rfl, h⟩
          have h := h.symm
          subst h
          go_wp2_with fail
          refine (C3.out _).mono ?_
          rintro e W ⟨rfl, h⟩
          have h := h.symm
          subst h
          go_wp2_with fail
          go_ret
          exact ⟨by rw [HR.out]; rfl, B0.out⟩
structure AllPortRel (n : Nat) (xs : List MPort) (w : World) (v : Value) (wr : World) : Prop where
  ex : ∃ k : Nat, k ≤ n ∧ v = .int .i64 (k : Int) ∧ (∀ (j : Nat) y, xs[j]? = some y → j < k → rightPort y = true) ∧ Below w.heap.size w wr
set_option maxRecDepth 100000 in
set_option maxHeartbeats 4000000 in
theorem allPort_any (v : Value) (xs : List MPort) (most : Int) (w : World) (h : Row w 6 RPort v xs) :
    Calls Try.prog 97 #[v, .int .i64 most, .func (.func 98) #[] #[]] w fun e w' => e = .returned (.bool (allB most rightPort xs)) ∧ Below w.heap.size w w' := by
  obtain ⟨a, cap, rfl, hm⟩ := h.form
  obtain ⟨n, hn⟩ : ∃ n, xs.length = n := ⟨_, rfl⟩
  rw [hn] at h hm ⊢
  have HN := Lib.hid hn
  have H := Lib.hid h
  unfold rowMax at hm
  clear hn h
  by_cases hgt : most < (n : Int)
  · have HR : Hid (allB most rightPort xs = false) := by unfold Hid allB; rw [HN.out, decide_eq_false (by omega)]; rfl
    go_enter Try.func97, Try.ntmps97
    go_wp2_with fail
    go_ret
    exact ⟨by rw [HR.out]; rfl, Below.refl _ _⟩
  · have hgt' : (n : Int) ≤ most := by omega
    have HR : Hid (allB most rightPort xs = xs.all rightPort) := by unfold Hid allB; rw [HN.out, decide_eq_true hgt']; rfl
    go_enter Try.func97, Try.ntmps97
    go_wp2_with fail
    go_loopw [15] (fun v wr => AllPortRel n xs w v wr) (fun v => fun _ => n - (intOf v).toNat)
    case atStart => exact ⟨⟨0, Nat.zero_le _, rfl, fun j y _ h => by omega, Below.refl _ _⟩⟩
    case round =>
      obtain ⟨⟨k, hk, rfl, hall, hb⟩⟩ := hrel
      have HK := Lib.hid hk
      have HA := Lib.hid hall
      have HB := Lib.hid hb
      clear hk hall hb
      by_cases hlt : k < n
      · have hkI : (k : Int) < (n : Int) := by omega
        have HX : Hid (k < n) := hlt
        obtain ⟨hnx, b, off, x, cs, rfl, hbl, hx, hR, _, hc⟩ := H.out.at_ k hlt
        clear hnx
        have HXS := Lib.hid hx
        obtain ⟨qa, qb, qc, qd, qe, qf⟩ := x
        obtain ⟨rfl, hsqa⟩ := hR
        have d0 : wr.cell? ⟨b, off + k * 6, none⟩ = some (.string qa) := cell_later HB.out (hc 0 _ rfl)
        have d1 : wr.cell? ⟨b, off + k * 6 + 1, none⟩ = some (.bool qb) := cell_later HB.out (hc 1 _ rfl)
        have d2 : wr.cell? ⟨b, off + k * 6 + 2, none⟩ = some (.bool qc) := cell_later HB.out (hc 2 _ rfl)
        have d3 : wr.cell? ⟨b, off + k * 6 + 3, none⟩ = some (.int .i64 qd) := cell_later HB.out (hc 3 _ rfl)
        have d4 : wr.cell? ⟨b, off + k * 6 + 4, none⟩ = some (.int .i64 qe) := cell_later HB.out (hc 4 _ rfl)
        have d5 : wr.cell? ⟨b, off + k * 6 + 5, none⟩ = some (.int .i64 qf) := cell_later HB.out (hc 5 _ rfl)
        obtain ⟨t, ht⟩ : ∃ t, rightPort ⟨qa, qb, qc, qd, qe, qf⟩ = t := ⟨_, rfl⟩
        have HT := Lib.hid ht
        have C : Hid (Calls Try.prog 98 #[.agg #[.string qa, .bool qb, .bool qc, .int .i64 qd, .int .i64 qe, .int .i64 qf]] (wr.alloc (.cells #[.string qa, .bool qb, .bool qc, .int .i64 qd, .int .i64 qe, .int .i64 qf] 57)) fun e w' => e = .returned (.bool t) ∧ Below (wr.alloc (.cells #[.string qa, .bool qb, .bool qc, .int .i64 qd, .int .i64 qe, .int .i64 qf] 57)).heap.size (wr.alloc (.cells #[.string qa, .bool qb, .bool qc, .int .i64 qd, .int .i64 qe, .int .i64 qf] 57)) w') := by
          unfold Hid
          rw [← ht]; exact rightPort_core qa qb qc qd qe qf  _ hsqa 
        clear hc ht hlt hsqa 
        go_wp2_with fail
        refine C.out.mono ?_
        rintro e W1 ⟨rfl, b1⟩
        have HB1 : Hid (Below w.heap.size w W1) := (HB.out.alloc HB.out.size _).trans (b1.mono (by have := HB.out.size; simp; omega))
        clear b1 C
        cases t with
        | true =>
          go_wp2_with fail
          go_roundw
          case rel =>
            have Q : AllPortRel n xs w (.int .i64 ((k : Int) + 1)) W1 := ⟨⟨k + 1, HX.out, by go_num, fun j y hy hj => by
              by_cases e : j = k
              · subst e
                have e2 := HXS.out.symm.trans hy
                injection e2 with e2
                rw [← e2]; exact HT.out
              · exact HA.out j y hy (by omega), HB1.out⟩⟩
            first | exact Q | ((repeat apply Exists.intro); exact ⟨Q, rfl⟩)
          case measure => have := HX.out; simp [intOf]; omega
        | false =>
          have HF : Hid (xs.all rightPort = false) := all_false HXS.out HT.out
          go_wp2_with fail
          go_ret
          exact ⟨by rw [HR.out, HF.out]; rfl, HB1.out⟩
      · have hkI : ¬ (k : Int) < (n : Int) := by omega
        have HF : Hid (xs.all rightPort = true) := all_true fun j y hy => HA.out j y hy (by have h1 := (List.getElem?_eq_some_iff.1 hy).1; have := HN.out; have := HK.out; omega)
        go_wp2_with fail
        go_ret
        exact ⟨by rw [HR.out, HF.out]; rfl, HB.out⟩
def rightRule (x : MRule) : Bool := inB x.qa 1 27 && inB x.qb 0 2 && inB x.qc 0 6
set_option maxRecDepth 100000 in
set_option maxHeartbeats 4000000 in
theorem rightRule_core (qa : Int) (qb : Int) (qc : Int) (w : World)  :
    Calls Try.prog 38 #[.agg #[.int .i64 qa, .int .i64 qb, .int .i64 qc]] w fun e w' => e = .returned (.bool (rightRule ⟨qa, qb, qc⟩)) ∧ Below w.heap.size w w' := by
  obtain ⟨t0, h0⟩ : ∃ t : Bool, inB qa 1 27 = t := ⟨_, rfl⟩
  obtain ⟨t1, h1⟩ : ∃ t : Bool, inB qb 0 2 = t := ⟨_, rfl⟩
  obtain ⟨t2, h2⟩ : ∃ t : Bool, inB qc 0 6 = t := ⟨_, rfl⟩
  have HR : Hid (rightRule ⟨qa, qb, qc⟩ = (t0 && t1 && t2)) := by unfold Hid rightRule; dsimp only; rw [h0, h1, h2]
  have C0 : Hid (∀ W, Calls Try.prog 28 #[.int .i64 qa, .int .i64 1, .int .i64 27] W fun e w' => e = .returned (.bool t0) ∧ w' = W) := fun W => by rw [← h0]; exact within_any qa _ _ W
  have C1 : Hid (∀ W, Calls Try.prog 28 #[.int .i64 qb, .int .i64 0, .int .i64 2] W fun e w' => e = .returned (.bool t1) ∧ w' = W) := fun W => by rw [← h1]; exact within_any qb _ _ W
  have C2 : Hid (∀ W, Calls Try.prog 28 #[.int .i64 qc, .int .i64 0, .int .i64 6] W fun e w' => e = .returned (.bool t2) ∧ w' = W) := fun W => by rw [← h2]; exact within_any qc _ _ W
  clear h0 h1 h2
  cases t0 with
  | false =>
    go_enter Try.func38, Try.ntmps38
    go_wp2_with fail
    obtain ⟨W0, hW0⟩ : ∃ W0, w.alloc (.cells #[.int .i64 qa, .int .i64 qb, .int .i64 qc] 80) = W0 := ⟨_, rfl⟩
    have d0 : W0.cell? ⟨w.heap.size, 0, none⟩ = some (.int .i64 qa) := by rw [← hW0, World.cell?_alloc_new]; rfl
    have d1 : W0.cell? ⟨w.heap.size, 1, none⟩ = some (.int .i64 qb) := by rw [← hW0, World.cell?_alloc_new]; rfl
    have d2 : W0.cell? ⟨w.heap.size, 2, none⟩ = some (.int .i64 qc) := by rw [← hW0, World.cell?_alloc_new]; rfl
    have B0 : Hid (Below w.heap.size w W0) := by rw [← hW0]; exact (Below.refl _ _).alloc (Nat.le_refl _) _
    rw [hW0]
    clear hW0
    refine (C0.out _).mono ?_
    rintro e W ⟨rfl, h⟩
    have h := h.symm
    subst h
    go_wp2_with fail
    go_ret
    exact ⟨by rw [HR.out]; rfl, B0.out⟩
  | true =>
    cases t1 with
    | false =>
      go_enter Try.func38, Try.ntmps38
      go_wp2_with fail
      obtain ⟨W0, hW0⟩ : ∃ W0, w.alloc (.cells #[.int .i64 qa, .int .i64 qb, .int .i64 qc] 80) = W0 := ⟨_, rfl⟩
      have d0 : W0.cell? ⟨w.heap.size, 0, none⟩ = some (.int .i64 qa) := by rw [← hW0, World.cell?_alloc_new]; rfl
      have d1 : W0.cell? ⟨w.heap.size, 1, none⟩ = some (.int .i64 qb) := by rw [← hW0, World.cell?_alloc_new]; rfl
      have d2 : W0.cell? ⟨w.heap.size, 2, none⟩ = some (.int .i64 qc) := by rw [← hW0, World.cell?_alloc_new]; rfl
      have B0 : Hid (Below w.heap.size w W0) := by rw [← hW0]; exact (Below.refl _ _).alloc (Nat.le_refl _) _
      rw [hW0]
      clear hW0
      refine (C0.out _).mono ?_
      rintro e W ⟨rfl, h⟩
      have h := h.symm
      subst h
      go_wp2_with fail
      refine (C1.out _).mono ?_
      rintro e W ⟨rfl, h⟩
      have h := h.symm
      subst h
      go_wp2_with fail
      go_ret
      exact ⟨by rw [HR.out]; rfl, B0.out⟩
    | true =>
      cases t2 with
      | false =>
        go_enter Try.func38, Try.ntmps38
        go_wp2_with fail
        obtain ⟨W0, hW0⟩ : ∃ W0, w.alloc (.cells #[.int .i64 qa, .int .i64 qb, .int .i64 qc] 80) = W0 := ⟨_, rfl⟩
        have d0 : W0.cell? ⟨w.heap.size, 0, none⟩ = some (.int .i64 qa) := by rw [← hW0, World.cell?_alloc_new]; rfl
        have d1 : W0.cell? ⟨w.heap.size, 1, none⟩ = some (.int .i64 qb) := by rw [← hW0, World.cell?_alloc_new]; rfl
        have d2 : W0.cell? ⟨w.heap.size, 2, none⟩ = some (.int .i64 qc) := by rw [← hW0, World.cell?_alloc_new]; rfl
        have B0 : Hid (Below w.heap.size w W0) := by rw [← hW0]; exact (Below.refl _ _).alloc (Nat.le_refl _) _
        rw [hW0]
        clear hW0
        refine (C0.out _).mono ?_
        rintro e W ⟨rfl, h⟩
        have h := h.symm
        subst h
        go_wp2_with fail
        refine (C1.out _).mono ?_
        rintro e W ⟨rfl, h⟩
        have h := h.symm
        subst h
        go_wp2_with fail
        refine (C2.out _).mono ?_
        rintro e W ⟨rfl, h⟩
        have h := h.symm
        subst h
        go_wp2_with fail
        go_ret
        exact ⟨by rw [HR.out]; rfl, B0.out⟩
      | true =>
        go_enter Try.func38, Try.ntmps38
        go_wp2_with fail
        obtain ⟨W0, hW0⟩ : ∃ W0, w.alloc (.cells #[.int .i64 qa, .int .i64 qb, .int .i64 qc] 80) = W0 := ⟨_, rfl⟩
        have d0 : W0.cell? ⟨w.heap.size, 0, none⟩ = some (.int .i64 qa) := by rw [← hW0, World.cell?_alloc_new]; rfl
        have d1 : W0.cell? ⟨w.heap.size, 1, none⟩ = some (.int .i64 qb) := by rw [← hW0, World.cell?_alloc_new]; rfl
        have d2 : W0.cell? ⟨w.heap.size, 2, none⟩ = some (.int .i64 qc) := by rw [← hW0, World.cell?_alloc_new]; rfl
        have B0 : Hid (Below w.heap.size w W0) := by rw [← hW0]; exact (Below.refl _ _).alloc (Nat.le_refl _) _
        rw [hW0]
        clear hW0
        refine (C0.out _).mono ?_
        rintro e W ⟨rfl, h⟩
        have h := h.symm
        subst h
        go_wp2_with fail
        refine (C1.out _).mono ?_
        rintro e W ⟨rfl, h⟩
        have h := h.symm
        subst h
        go_wp2_with fail
        refine (C2.out _).mono ?_
        rintro e W ⟨rfl, h⟩
        have h := h.symm
        subst h
        go_wp2_with fail
        go_ret
        exact ⟨by rw [HR.out]; rfl, B0.out⟩
structure AllRuleRel (n : Nat) (xs : List MRule) (w : World) (v : Value) (wr : World) : Prop where
  ex : ∃ k : Nat, k ≤ n ∧ v = .int .i64 (k : Int) ∧ (∀ (j : Nat) y, xs[j]? = some y → j < k → rightRule y = true) ∧ Below w.heap.size w wr
set_option maxRecDepth 100000 in
set_option maxHeartbeats 4000000 in
theorem allRule_any (v : Value) (xs : List MRule) (most : Int) (w : World) (h : Row w 3 RRule v xs) :
    Calls Try.prog 37 #[v, .int .i64 most, .func (.func 38) #[] #[]] w fun e w' => e = .returned (.bool (allB most rightRule xs)) ∧ Below w.heap.size w w' := by
  obtain ⟨a, cap, rfl, hm⟩ := h.form
  obtain ⟨n, hn⟩ : ∃ n, xs.length = n := ⟨_, rfl⟩
  rw [hn] at h hm ⊢
  have HN := Lib.hid hn
  have H := Lib.hid h
  unfold rowMax at hm
  clear hn h
  by_cases hgt : most < (n : Int)
  · have HR : Hid (allB most rightRule xs = false) := by unfold Hid allB; rw [HN.out, decide_eq_false (by omega)]; rfl
    go_enter Try.func37, Try.ntmps37
    go_wp2_with fail
    go_ret
    exact ⟨by rw [HR.out]; rfl, Below.refl _ _⟩
  · have hgt' : (n : Int) ≤ most := by omega
    have HR : Hid (allB most rightRule xs = xs.all rightRule) := by unfold Hid allB; rw [HN.out, decide_eq_true hgt']; rfl
    go_enter Try.func37, Try.ntmps37
    go_wp2_with fail
    go_loopw [15] (fun v wr => AllRuleRel n xs w v wr) (fun v => fun _ => n - (intOf v).toNat)
    case atStart => exact ⟨⟨0, Nat.zero_le _, rfl, fun j y _ h => by omega, Below.refl _ _⟩⟩
    case round =>
      obtain ⟨⟨k, hk, rfl, hall, hb⟩⟩ := hrel
      have HK := Lib.hid hk
      have HA := Lib.hid hall
      have HB := Lib.hid hb
      clear hk hall hb
      by_cases hlt : k < n
      · have hkI : (k : Int) < (n : Int) := by omega
        have HX : Hid (k < n) := hlt
        obtain ⟨hnx, b, off, x, cs, rfl, hbl, hx, hR, _, hc⟩ := H.out.at_ k hlt
        clear hnx
        have HXS := Lib.hid hx
        obtain ⟨qa, qb, qc⟩ := x
        obtain ⟨rfl, _⟩ := hR
        have d0 : wr.cell? ⟨b, off + k * 3, none⟩ = some (.int .i64 qa) := cell_later HB.out (hc 0 _ rfl)
        have d1 : wr.cell? ⟨b, off + k * 3 + 1, none⟩ = some (.int .i64 qb) := cell_later HB.out (hc 1 _ rfl)
        have d2 : wr.cell? ⟨b, off + k * 3 + 2, none⟩ = some (.int .i64 qc) := cell_later HB.out (hc 2 _ rfl)
        obtain ⟨t, ht⟩ : ∃ t, rightRule ⟨qa, qb, qc⟩ = t := ⟨_, rfl⟩
        have HT := Lib.hid ht
        have C : Hid (Calls Try.prog 38 #[.agg #[.int .i64 qa, .int .i64 qb, .int .i64 qc]] (wr.alloc (.cells #[.int .i64 qa, .int .i64 qb, .int .i64 qc] 80)) fun e w' => e = .returned (.bool t) ∧ Below (wr.alloc (.cells #[.int .i64 qa, .int .i64 qb, .int .i64 qc] 80)).heap.size (wr.alloc (.cells #[.int .i64 qa, .int .i64 qb, .int .i64 qc] 80)) w') := by
          unfold Hid
          rw [← ht]; exact rightRule_core qa qb qc  _  
        clear hc ht hlt  
        go_wp2_with fail
        refine C.out.mono ?_
        rintro e W1 ⟨rfl, b1⟩
        have HB1 : Hid (Below w.heap.size w W1) := (HB.out.alloc HB.out.size _).trans (b1.mono (by have := HB.out.size; simp; omega))
        clear b1 C
        cases t with
        | true =>
          go_wp2_with fail
          go_roundw
          case rel =>
            have Q : AllRuleRel n xs w (.int .i64 ((k : Int) + 1)) W1 := ⟨⟨k + 1, HX.out, by go_num, fun j y hy hj => by
              by_cases e : j = k
              · subst e
                have e2 := HXS.out.symm.trans hy
                injection e2 with e2
                rw [← e2]; exact HT.out
              · exact HA.out j y hy (by omega), HB1.out⟩⟩
            first | exact Q | ((repeat apply Exists.intro); exact ⟨Q, rfl⟩)
          case measure => have := HX.out; simp [intOf]; omega
        | false =>
          have HF : Hid (xs.all rightRule = false) := all_false HXS.out HT.out
          go_wp2_with fail
          go_ret
          exact ⟨by rw [HR.out, HF.out]; rfl, HB1.out⟩
      · have hkI : ¬ (k : Int) < (n : Int) := by omega
        have HF : Hid (xs.all rightRule = true) := all_true fun j y hy => HA.out j y hy (by have h1 := (List.getElem?_eq_some_iff.1 hy).1; have := HN.out; have := HK.out; omega)
        go_wp2_with fail
        go_ret
        exact ⟨by rw [HR.out, HF.out]; rfl, HB.out⟩
end Go.Proofs.Ytchlgihanogeeaa
