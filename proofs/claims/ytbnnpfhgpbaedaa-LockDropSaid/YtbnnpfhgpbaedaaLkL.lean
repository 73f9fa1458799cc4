/-
  Locks: what Take and Give refuse. Each statement bears its own conditions.
-/
import Derived.Test.YtbnnpfhgpbaedaaLkC
namespace Go.Proofs.Ytbnnpfhgpbaedaa.K
open Go.RowKit Go.Maps
set_option linter.unusedVariables false
set_option linter.unusedSimpArgs false
set_option maxRecDepth 100000 in
set_option maxHeartbeats 2000000 in
theorem take_neg (g : Nat) (id bs x : Int) (w : World) (h0 : id < 0) :
    Calls Try.prog 14 #[.pointer (some ⟨g, 0, none⟩), .int .i64 id, .int .i64 bs, .int .i64 x] w fun e w' => e = .returned (.tuple #[.bool false, .int .i64 2]) ∧ w' = w := by
  have hz : ∀ w : World, (binOp .eql 24 (.pointer (some ⟨g, 0, none⟩)) (.pointer none)).run Try.prog w = .ok (.bool false) w := fun _ => rfl
  go_enter Try.func14, Try.ntmps14
  go_wp2_with fail
  go_ret2
  exact ⟨rfl, rfl⟩
set_option maxRecDepth 100000 in
set_option maxHeartbeats 2000000 in
theorem take_prio (g : Nat) (id bs x : Int) (w : World) (h0 : 0 ≤ id) (hb : ¬ (1 ≤ bs ∧ bs ≤ 63)) :
    Calls Try.prog 14 #[.pointer (some ⟨g, 0, none⟩), .int .i64 id, .int .i64 bs, .int .i64 x] w fun e w' => e = .returned (.tuple #[.bool false, .int .i64 2]) ∧ w' = w := by
  have hz : ∀ w : World, (binOp .eql 24 (.pointer (some ⟨g, 0, none⟩)) (.pointer none)).run Try.prog w = .ok (.bool false) w := fun _ => rfl
  have h00 : ¬ id < 0 := by omega
  have HP : Hid (∀ x : World, Calls Try.prog 28 #[.int .i64 bs] x fun e w' => e = .returned (.bool false) ∧ w' = x) := fun x => by
    have := prio_any bs x
    rw [decide_eq_false hb] at this
    exact this
  clear hb
  go_enter Try.func14, Try.ntmps14
  go_wp2_with fail
  refine (HP.out _).mono ?_
  rintro e w0 ⟨rfl, hw0⟩
  rw [hw0]
  clear hw0 w0
  go_wp2_with fail
  go_ret2
  exact ⟨rfl, rfl⟩
set_option maxRecDepth 100000 in
set_option maxHeartbeats 2000000 in
theorem take_lost (lo g bc bw bm N : Nat) (rb : Nat → Nat) (cs : List Int) (ws : Nat → List (Int × Int)) (os : Int → Option Int) (id bs x : Int) (w : World) (h : LV lo w g bc bw bm N rb cs ws os) (h0 : 0 ≤ id) (hb : 1 ≤ bs ∧ bs ≤ 63) (hx : ¬ (0 ≤ x ∧ x < cs.length)) :
    Calls Try.prog 14 #[.pointer (some ⟨g, 0, none⟩), .int .i64 id, .int .i64 bs, .int .i64 x] w fun e w' => e = .returned (.tuple #[.bool false, .int .i64 9]) ∧ w' = w := by
  have hz : ∀ w : World, (binOp .eql 24 (.pointer (some ⟨g, 0, none⟩)) (.pointer none)).run Try.prog w = .ok (.bool false) w := fun _ => rfl
  have h00 : ¬ id < 0 := by omega
  have HA : Hid (Calls Try.prog 35 #[.pointer (some ⟨g, 0, none⟩), .int .i64 x] w fun e w' => e = .returned (.bool false) ∧ w' = w) := by
    obtain ⟨vc, cw, a1, a2, a3⟩ := h.hd
    have := has_any g cw 0 bw vc bm bc cs x w a1 a2
    rw [decide_eq_false hx] at this
    exact this
  have HP : Hid (∀ x : World, Calls Try.prog 28 #[.int .i64 bs] x fun e w' => e = .returned (.bool true) ∧ w' = x) := fun x => by
    have := prio_any bs x
    rw [decide_eq_true hb] at this
    exact this
  clear hb h hx
  go_enter Try.func14, Try.ntmps14
  go_wp2_with fail
  refine (HP.out _).mono ?_
  rintro e w0 ⟨rfl, hw0⟩
  rw [hw0]
  clear hw0 w0
  go_wp2_with fail
  refine (HA.out).mono ?_
  rintro e w0 ⟨rfl, hw0⟩
  rw [hw0]
  clear hw0 w0
  go_wp2_with fail
  go_ret2
  exact ⟨rfl, rfl⟩
set_option maxRecDepth 100000 in
set_option maxHeartbeats 2000000 in
theorem give_lost (lo g bc bw bm N : Nat) (rb : Nat → Nat) (cs : List Int) (ws : Nat → List (Int × Int)) (os : Int → Option Int) (id x : Int) (w : World) (h : LV lo w g bc bw bm N rb cs ws os) (hx : ¬ (0 ≤ x ∧ x < cs.length)) :
    Calls Try.prog 16 #[.pointer (some ⟨g, 0, none⟩), .int .i64 id, .int .i64 x] w fun e w' => e = .returned (.tuple #[.slice none 0 0, .int .i64 9]) ∧ w' = w := by
  have hz : ∀ w : World, (binOp .eql 24 (.pointer (some ⟨g, 0, none⟩)) (.pointer none)).run Try.prog w = .ok (.bool false) w := fun _ => rfl
  have HA : Hid (Calls Try.prog 35 #[.pointer (some ⟨g, 0, none⟩), .int .i64 x] w fun e w' => e = .returned (.bool false) ∧ w' = w) := by
    obtain ⟨vc, cw, a1, a2, a3⟩ := h.hd
    have := has_any g cw 0 bw vc bm bc cs x w a1 a2
    rw [decide_eq_false hx] at this
    exact this
  clear h hx
  go_enter Try.func16, Try.ntmps16
  go_wp2_with fail
  refine (HA.out).mono ?_
  rintro e w0 ⟨rfl, hw0⟩
  rw [hw0]
  clear hw0 w0
  go_wp2_with fail
  go_ret2
  exact ⟨rfl, rfl⟩
set_option maxRecDepth 100000 in
set_option maxHeartbeats 2000000 in
theorem give_waits (lo g bc bw bm N : Nat) (rb : Nat → Nat) (cs : List Int) (ws : Nat → List (Int × Int)) (os : Int → Option Int) (id : Int) (i : Nat) (w : World) (h : LV lo w g bc bw bm N rb cs ws os) (hn : cs.length ≤ 16) (hl : ∀ i, i < cs.length → (ws i).length ≤ 900) (hi : i < cs.length) (hq : ¬ NoId ws cs.length id) :
    Calls Try.prog 16 #[.pointer (some ⟨g, 0, none⟩), .int .i64 id, .int .i64 (i : Int)] w fun e w' => e = .returned (.tuple #[.slice none 0 0, .int .i64 10]) ∧ LV lo w' g bc bw bm N rb cs ws os ∧ Lx bw bm cs.length rb rb w w' := by
  have hz : ∀ w : World, (binOp .eql 24 (.pointer (some ⟨g, 0, none⟩)) (.pointer none)).run Try.prog w = .ok (.bool false) w := fun _ => rfl
  have HA : Hid (Calls Try.prog 35 #[.pointer (some ⟨g, 0, none⟩), .int .i64 (i : Int)] w fun e w' => e = .returned (.bool true) ∧ w' = w) := by
    obtain ⟨vc, cw, a1, a2, a3⟩ := h.hd
    have := has_any g cw 0 bw vc bm bc cs (i : Int) w a1 a2
    rw [decide_eq_true (by omega)] at this
    exact this
  have WA := Lib.hid (waits_any lo g bc bw bm N rb cs ws os id w h hn (fun i hi => by have := hl i hi; omega))
  rw [show (!decide (NoId ws cs.length id)) = true by simp [hq]] at WA
  have H := Lib.hid h
  clear h hl hq
  go_enter Try.func16, Try.ntmps16
  go_wp2_with fail
  refine (HA.out).mono ?_
  rintro e w0 ⟨rfl, hw0⟩
  rw [hw0]
  clear hw0 w0
  go_wp2_with fail
  refine WA.out.mono ?_
  rintro e w1 ⟨rfl, b1⟩
  have H1 := Lib.hid (H.out.below b1)
  have X1 : Hid (Lx bw bm cs.length rb rb w w1) := Lx.of_below b1
  clear b1 WA HA
  go_wp2_with fail
  go_ret2
  exact ⟨rfl, H1.out, X1.out⟩
set_option maxRecDepth 100000 in
set_option maxHeartbeats 2000000 in
theorem give_other (lo g bc bw bm N : Nat) (rb : Nat → Nat) (cs : List Int) (ws : Nat → List (Int × Int)) (os : Int → Option Int) (id : Int) (i : Nat) (w : World) (h : LV lo w g bc bw bm N rb cs ws os) (hn : cs.length ≤ 16) (hl : ∀ i, i < cs.length → (ws i).length ≤ 900) (hi : i < cs.length) (hq : NoId ws cs.length id) (ho : os (i : Int) ≠ some id) :
    Calls Try.prog 16 #[.pointer (some ⟨g, 0, none⟩), .int .i64 id, .int .i64 (i : Int)] w fun e w' => e = .returned (.tuple #[.slice none 0 0, .int .i64 11]) ∧ LV lo w' g bc bw bm N rb cs ws os ∧ Lx bw bm cs.length rb rb w w' := by
  have hz : ∀ w : World, (binOp .eql 24 (.pointer (some ⟨g, 0, none⟩)) (.pointer none)).run Try.prog w = .ok (.bool false) w := fun _ => rfl
  have HA : Hid (Calls Try.prog 35 #[.pointer (some ⟨g, 0, none⟩), .int .i64 (i : Int)] w fun e w' => e = .returned (.bool true) ∧ w' = w) := by
    obtain ⟨vc, cw, a1, a2, a3⟩ := h.hd
    have := has_any g cw 0 bw vc bm bc cs (i : Int) w a1 a2
    rw [decide_eq_true (by omega)] at this
    exact this
  have hk : (Lit.int .i64 (i : Int)).wf = true := WalkArith.wf_i64 (by omega)
  have WA := Lib.hid (waits_any lo g bc bw bm N rb cs ws os id w h hn (fun i hi => by have := hl i hi; omega))
  rw [show (!decide (NoId ws cs.length id)) = false by simp [hq]] at WA
  have H := Lib.hid h
  clear h hl hq
  go_enter Try.func16, Try.ntmps16
  go_wp2_with fail
  refine (HA.out).mono ?_
  rintro e w0 ⟨rfl, hw0⟩
  rw [hw0]
  clear hw0 w0
  go_wp2_with fail
  refine WA.out.mono ?_
  rintro e w1 ⟨rfl, b1⟩
  have H1 := Lib.hid (H.out.below b1)
  have X1 : Hid (Lx bw bm cs.length rb rb w w1) := Lx.of_below b1
  clear b1 WA HA
  have OW : Hid (Calls Try.prog 37 #[.pointer (some ⟨g, 0, none⟩), .int .i64 id, .int .i64 (i : Int)] w1 fun e w' => e = .returned (.bool false) ∧ w' = w1) := by
    obtain ⟨vc, cw, a1, a2, a3⟩ := H1.out.hd
    have := owns_any g bm N vc (.slice (some ⟨bw, 0, none⟩) cs.length cw) os id (i : Int) w1 hk a1 H1.out.mp
    rw [decide_eq_false ho] at this
    exact this
  go_wp2_with fail
  refine (OW.out).mono ?_
  rintro e w0 ⟨rfl, hw0⟩
  rw [hw0]
  clear hw0 w0
  go_wp2_with fail
  go_ret2
  exact ⟨rfl, H1.out, X1.out⟩
end Go.Proofs.Ytbnnpfhgpbaedaa.K
