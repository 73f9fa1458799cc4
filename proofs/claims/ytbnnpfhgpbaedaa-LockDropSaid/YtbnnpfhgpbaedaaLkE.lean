/-
  Locks: Take. Each statement bears its own conditions.
-/
import Derived.Test.YtbnnpfhgpbaedaaLkC
namespace Go.Proofs.Ytbnnpfhgpbaedaa.K
open Go.RowKit Go.Maps
set_option linter.unusedVariables false
set_option linter.unusedSimpArgs false
set_option maxRecDepth 100000 in
set_option maxHeartbeats 4000000 in
theorem take_waits (lo g bc bw bm N : Nat) (rb : Nat → Nat) (cs : List Int) (ws : Nat → List (Int × Int)) (os : Int → Option Int) (id bs : Int) (i : Nat) (w : World) (h : LV lo w g bc bw bm N rb cs ws os) (hn : cs.length ≤ 16) (hl : ∀ i, i < cs.length → (ws i).length ≤ 900) (hi : i < cs.length) (h0 : 0 ≤ id) (hb : 1 ≤ bs ∧ bs ≤ 63) (hq : ¬ NoId ws cs.length id) :
    Calls Try.prog 14 #[.pointer (some ⟨g, 0, none⟩), .int .i64 id, .int .i64 bs, .int .i64 (i : Int)] w fun e w' => e = .returned (.tuple #[.bool false, .int .i64 10]) ∧ LV lo w' g bc bw bm N rb cs ws os ∧ Lx bw bm cs.length rb rb w w' := by
  have H := Lib.hid h
  have HI := Lib.hid hi
  have HL := Lib.hid hl
  have hz : ∀ w : World, (binOp .eql 24 (.pointer (some ⟨g, 0, none⟩)) (.pointer none)).run Try.prog w = .ok (.bool false) w := fun _ => rfl
  have h00 : ¬ id < 0 := by omega
  have HA : Hid (Calls Try.prog 35 #[.pointer (some ⟨g, 0, none⟩), .int .i64 (i : Int)] w fun e w' => e = .returned (.bool true) ∧ w' = w) := by
    obtain ⟨vc, cw, a1, a2, a3⟩ := h.hd
    have := has_any g cw 0 bw vc bm bc cs (i : Int) w a1 a2
    rw [decide_eq_true (by omega)] at this
    exact this
  have HP : Hid (∀ x : World, Calls Try.prog 28 #[.int .i64 bs] x fun e w' => e = .returned (.bool true) ∧ w' = x) := fun x => by
    have := prio_any bs x
    rw [decide_eq_true hb] at this
    exact this
  have WA := Lib.hid (waits_any lo g bc bw bm N rb cs ws os id w h hn (fun i hi => by have := hl i hi; omega))
  have hk : (Lit.int .i64 (i : Int)).wf = true := WalkArith.wf_i64 (by omega)
  have hi0 : (0 : Int) ≤ (i : Int) := by omega
  have hiI : (i : Int) < (cs.length : Int) := by omega
  obtain ⟨n, hnn⟩ : ∃ n, cs.length = n := ⟨_, rfl⟩
  have HN := Lib.hid hnn
  rw [hnn] at hiI
  rw [show (!decide (NoId ws cs.length id)) = true by simp [hq]] at WA
  clear hq
  clear h hn hl hi hb hnn
  go_enter Try.func14, Try.ntmps14
  go_wp2_with fail
  refine (HP.out _).mono ?_
  rintro e w0 ⟨rfl, hw0⟩
  rw [hw0]
  clear hw0 w0
  go_wp2_with fail
  refine HA.out.mono ?_
  rintro e w0 ⟨rfl, hw0⟩
  rw [hw0]
  clear hw0 w0
  go_wp2_with fail
  refine WA.out.mono ?_
  rintro e w1 ⟨rfl, b1⟩
  have H1 := Lib.hid (H.out.below b1)
  have X1 : Hid (Lx bw bm cs.length rb rb w w1) := Lx.of_below b1
  have B1 := Lib.hid b1
  clear b1 WA HA HP
  go_wp2_with fail
  go_ret2
  exact ⟨rfl, H1.out, X1.out⟩
set_option maxRecDepth 100000 in
set_option maxHeartbeats 4000000 in
theorem take_twice (lo g bc bw bm N : Nat) (rb : Nat → Nat) (cs : List Int) (ws : Nat → List (Int × Int)) (os : Int → Option Int) (id bs : Int) (i : Nat) (w : World) (h : LV lo w g bc bw bm N rb cs ws os) (hn : cs.length ≤ 16) (hl : ∀ i, i < cs.length → (ws i).length ≤ 900) (hi : i < cs.length) (h0 : 0 ≤ id) (hb : 1 ≤ bs ∧ bs ≤ 63) (hq : NoId ws cs.length id) (ho : os (i : Int) = some id) :
    Calls Try.prog 14 #[.pointer (some ⟨g, 0, none⟩), .int .i64 id, .int .i64 bs, .int .i64 (i : Int)] w fun e w' => e = .returned (.tuple #[.bool false, .int .i64 7]) ∧ LV lo w' g bc bw bm N rb cs ws os ∧ Lx bw bm cs.length rb rb w w' := by
  have H := Lib.hid h
  have HI := Lib.hid hi
  have HL := Lib.hid hl
  have hz : ∀ w : World, (binOp .eql 24 (.pointer (some ⟨g, 0, none⟩)) (.pointer none)).run Try.prog w = .ok (.bool false) w := fun _ => rfl
  have h00 : ¬ id < 0 := by omega
  have HA : Hid (Calls Try.prog 35 #[.pointer (some ⟨g, 0, none⟩), .int .i64 (i : Int)] w fun e w' => e = .returned (.bool true) ∧ w' = w) := by
    obtain ⟨vc, cw, a1, a2, a3⟩ := h.hd
    have := has_any g cw 0 bw vc bm bc cs (i : Int) w a1 a2
    rw [decide_eq_true (by omega)] at this
    exact this
  have HP : Hid (∀ x : World, Calls Try.prog 28 #[.int .i64 bs] x fun e w' => e = .returned (.bool true) ∧ w' = x) := fun x => by
    have := prio_any bs x
    rw [decide_eq_true hb] at this
    exact this
  have WA := Lib.hid (waits_any lo g bc bw bm N rb cs ws os id w h hn (fun i hi => by have := hl i hi; omega))
  have hk : (Lit.int .i64 (i : Int)).wf = true := WalkArith.wf_i64 (by omega)
  have hi0 : (0 : Int) ≤ (i : Int) := by omega
  have hiI : (i : Int) < (cs.length : Int) := by omega
  obtain ⟨n, hnn⟩ : ∃ n, cs.length = n := ⟨_, rfl⟩
  have HN := Lib.hid hnn
  rw [hnn] at hiI
  rw [show (!decide (NoId ws cs.length id)) = false by simp [hq]] at WA
  clear hq
  clear h hn hl hi hb hnn
  go_enter Try.func14, Try.ntmps14
  go_wp2_with fail
  refine (HP.out _).mono ?_
  rintro e w0 ⟨rfl, hw0⟩
  rw [hw0]
  clear hw0 w0
  go_wp2_with fail
  refine HA.out.mono ?_
  rintro e w0 ⟨rfl, hw0⟩
  rw [hw0]
  clear hw0 w0
  go_wp2_with fail
  refine WA.out.mono ?_
  rintro e w1 ⟨rfl, b1⟩
  have H1 := Lib.hid (H.out.below b1)
  have X1 : Hid (Lx bw bm cs.length rb rb w w1) := Lx.of_below b1
  have B1 := Lib.hid b1
  clear b1 WA HA HP
  have OW : Hid (Calls Try.prog 37 #[.pointer (some ⟨g, 0, none⟩), .int .i64 id, .int .i64 (i : Int)] w1 fun e w' => e = .returned (.bool true) ∧ w' = w1) := by
    obtain ⟨vc, cw, a1, a2, a3⟩ := H1.out.hd
    have := owns_any g bm N vc (.slice (some ⟨bw, 0, none⟩) cs.length cw) os id (i : Int) w1 hk a1 H1.out.mp
    rw [decide_eq_true ho] at this
    exact this
  go_wp2_with fail
  refine OW.out.mono ?_
  rintro e w0 ⟨rfl, hw0⟩
  rw [hw0]
  clear hw0 w0
  clear OW
  clear ho
  go_wp2_with fail
  go_ret2
  exact ⟨rfl, H1.out, X1.out⟩
set_option maxRecDepth 100000 in
set_option maxHeartbeats 4000000 in
theorem take_rights (lo g bc bw bm N : Nat) (rb : Nat → Nat) (cs : List Int) (ws : Nat → List (Int × Int)) (os : Int → Option Int) (id bs : Int) (i : Nat) (w : World) (h : LV lo w g bc bw bm N rb cs ws os) (hn : cs.length ≤ 16) (hl : ∀ i, i < cs.length → (ws i).length ≤ 900) (hi : i < cs.length) (h0 : 0 ≤ id) (hb : 1 ≤ bs ∧ bs ≤ 63) (hq : NoId ws cs.length id) (ho : os (i : Int) ≠ some id) (hce : cs.getD i 0 < bs) :
    Calls Try.prog 14 #[.pointer (some ⟨g, 0, none⟩), .int .i64 id, .int .i64 bs, .int .i64 (i : Int)] w fun e w' => e = .returned (.tuple #[.bool false, .int .i64 11]) ∧ LV lo w' g bc bw bm N rb cs ws os ∧ Lx bw bm cs.length rb rb w w' := by
  have H := Lib.hid h
  have HI := Lib.hid hi
  have HL := Lib.hid hl
  have hz : ∀ w : World, (binOp .eql 24 (.pointer (some ⟨g, 0, none⟩)) (.pointer none)).run Try.prog w = .ok (.bool false) w := fun _ => rfl
  have h00 : ¬ id < 0 := by omega
  have HA : Hid (Calls Try.prog 35 #[.pointer (some ⟨g, 0, none⟩), .int .i64 (i : Int)] w fun e w' => e = .returned (.bool true) ∧ w' = w) := by
    obtain ⟨vc, cw, a1, a2, a3⟩ := h.hd
    have := has_any g cw 0 bw vc bm bc cs (i : Int) w a1 a2
    rw [decide_eq_true (by omega)] at this
    exact this
  have HP : Hid (∀ x : World, Calls Try.prog 28 #[.int .i64 bs] x fun e w' => e = .returned (.bool true) ∧ w' = x) := fun x => by
    have := prio_any bs x
    rw [decide_eq_true hb] at this
    exact this
  have WA := Lib.hid (waits_any lo g bc bw bm N rb cs ws os id w h hn (fun i hi => by have := hl i hi; omega))
  have hk : (Lit.int .i64 (i : Int)).wf = true := WalkArith.wf_i64 (by omega)
  have hi0 : (0 : Int) ≤ (i : Int) := by omega
  have hiI : (i : Int) < (cs.length : Int) := by omega
  obtain ⟨n, hnn⟩ : ∃ n, cs.length = n := ⟨_, rfl⟩
  have HN := Lib.hid hnn
  rw [hnn] at hiI
  rw [show (!decide (NoId ws cs.length id)) = false by simp [hq]] at WA
  clear hq
  clear h hn hl hi hb hnn
  go_enter Try.func14, Try.ntmps14
  go_wp2_with fail
  refine (HP.out _).mono ?_
  rintro e w0 ⟨rfl, hw0⟩
  rw [hw0]
  clear hw0 w0
  go_wp2_with fail
  refine HA.out.mono ?_
  rintro e w0 ⟨rfl, hw0⟩
  rw [hw0]
  clear hw0 w0
  go_wp2_with fail
  refine WA.out.mono ?_
  rintro e w1 ⟨rfl, b1⟩
  have H1 := Lib.hid (H.out.below b1)
  have X1 : Hid (Lx bw bm cs.length rb rb w w1) := Lx.of_below b1
  have B1 := Lib.hid b1
  clear b1 WA HA HP
  have OW : Hid (Calls Try.prog 37 #[.pointer (some ⟨g, 0, none⟩), .int .i64 id, .int .i64 (i : Int)] w1 fun e w' => e = .returned (.bool false) ∧ w' = w1) := by
    obtain ⟨vc, cw, a1, a2, a3⟩ := H1.out.hd
    have := owns_any g bm N vc (.slice (some ⟨bw, 0, none⟩) cs.length cw) os id (i : Int) w1 hk a1 H1.out.mp
    rw [decide_eq_false ho] at this
    exact this
  go_wp2_with fail
  refine OW.out.mono ?_
  rintro e w0 ⟨rfl, hw0⟩
  rw [hw0]
  clear hw0 w0
  clear OW
  clear ho
  obtain ⟨vc, cw, a1, a2, a3⟩ := H1.out.hd
  obtain ⟨⟨cc, hvc⟩, e0, _⟩ := a2.cells i HI.out
  subst hvc
  have c0 : w1.cell? ⟨g, 0, none⟩ = some (.slice (some ⟨bc, 0, none⟩) cs.length cc) := by rw [(row_cell a1 0).1]; rfl
  have c2 : w1.cell? ⟨g, 2, none⟩ = some (.map (some bm)) := by rw [(row_cell a1 2).1]; rfl
  rw [HN.out] at c0
  obtain ⟨y, hy⟩ : ∃ y, cs.getD i 0 = y := ⟨_, rfl⟩
  rw [hy] at e0 hce
  clear a1 a2 a3 hy
  go_wp2_with fail
  go_ret2
  exact ⟨rfl, H1.out, X1.out⟩
set_option maxRecDepth 100000 in
set_option maxHeartbeats 4000000 in
theorem take_joins (lo g bc bw bm N : Nat) (rb : Nat → Nat) (cs : List Int) (ws : Nat → List (Int × Int)) (os : Int → Option Int) (id bs : Int) (i : Nat) (w : World) (h : LV lo w g bc bw bm N rb cs ws os) (hn : cs.length ≤ 16) (hl : ∀ i, i < cs.length → (ws i).length ≤ 900) (hi : i < cs.length) (h0 : 0 ≤ id) (hb : 1 ≤ bs ∧ bs ≤ 63) (hq : NoId ws cs.length id) (o : Int) (ho2 : os (i : Int) = some o) (ho3 : o ≠ id) (hce : bs ≤ cs.getD i 0) :
    Calls Try.prog 14 #[.pointer (some ⟨g, 0, none⟩), .int .i64 id, .int .i64 bs, .int .i64 (i : Int)] w fun e w' => e = .returned (.tuple #[.bool false, .int .i64 0]) ∧ ∃ rb', LV lo w' g bc bw bm N (putN rb i rb') cs (putN ws i (joinP (ws i) id bs)) os ∧ Lx bw bm cs.length rb (putN rb i rb') w w' := by
  have H := Lib.hid h
  have HI := Lib.hid hi
  have HL := Lib.hid hl
  have hz : ∀ w : World, (binOp .eql 24 (.pointer (some ⟨g, 0, none⟩)) (.pointer none)).run Try.prog w = .ok (.bool false) w := fun _ => rfl
  have h00 : ¬ id < 0 := by omega
  have HA : Hid (Calls Try.prog 35 #[.pointer (some ⟨g, 0, none⟩), .int .i64 (i : Int)] w fun e w' => e = .returned (.bool true) ∧ w' = w) := by
    obtain ⟨vc, cw, a1, a2, a3⟩ := h.hd
    have := has_any g cw 0 bw vc bm bc cs (i : Int) w a1 a2
    rw [decide_eq_true (by omega)] at this
    exact this
  have HP : Hid (∀ x : World, Calls Try.prog 28 #[.int .i64 bs] x fun e w' => e = .returned (.bool true) ∧ w' = x) := fun x => by
    have := prio_any bs x
    rw [decide_eq_true hb] at this
    exact this
  have WA := Lib.hid (waits_any lo g bc bw bm N rb cs ws os id w h hn (fun i hi => by have := hl i hi; omega))
  have hk : (Lit.int .i64 (i : Int)).wf = true := WalkArith.wf_i64 (by omega)
  have hi0 : (0 : Int) ≤ (i : Int) := by omega
  have hiI : (i : Int) < (cs.length : Int) := by omega
  obtain ⟨n, hnn⟩ : ∃ n, cs.length = n := ⟨_, rfl⟩
  have HN := Lib.hid hnn
  rw [hnn] at hiI
  have ho : os (i : Int) ≠ some id := by rw [ho2]; simpa using ho3
  rw [show (!decide (NoId ws cs.length id)) = false by simp [hq]] at WA
  clear hq
  clear h hn hl hi hb hnn
  go_enter Try.func14, Try.ntmps14
  go_wp2_with fail
  refine (HP.out _).mono ?_
  rintro e w0 ⟨rfl, hw0⟩
  rw [hw0]
  clear hw0 w0
  go_wp2_with fail
  refine HA.out.mono ?_
  rintro e w0 ⟨rfl, hw0⟩
  rw [hw0]
  clear hw0 w0
  go_wp2_with fail
  refine WA.out.mono ?_
  rintro e w1 ⟨rfl, b1⟩
  have H1 := Lib.hid (H.out.below b1)
  have X1 : Hid (Lx bw bm cs.length rb rb w w1) := Lx.of_below b1
  have B1 := Lib.hid b1
  clear b1 WA HA HP
  have OW : Hid (Calls Try.prog 37 #[.pointer (some ⟨g, 0, none⟩), .int .i64 id, .int .i64 (i : Int)] w1 fun e w' => e = .returned (.bool false) ∧ w' = w1) := by
    obtain ⟨vc, cw, a1, a2, a3⟩ := H1.out.hd
    have := owns_any g bm N vc (.slice (some ⟨bw, 0, none⟩) cs.length cw) os id (i : Int) w1 hk a1 H1.out.mp
    rw [decide_eq_false ho] at this
    exact this
  go_wp2_with fail
  refine OW.out.mono ?_
  rintro e w0 ⟨rfl, hw0⟩
  rw [hw0]
  clear hw0 w0
  clear OW
  clear ho
  obtain ⟨vc, cw, a1, a2, a3⟩ := H1.out.hd
  obtain ⟨⟨cc, hvc⟩, e0, _⟩ := a2.cells i HI.out
  subst hvc
  have c0 : w1.cell? ⟨g, 0, none⟩ = some (.slice (some ⟨bc, 0, none⟩) cs.length cc) := by rw [(row_cell a1 0).1]; rfl
  have c2 : w1.cell? ⟨g, 2, none⟩ = some (.map (some bm)) := by rw [(row_cell a1 2).1]; rfl
  rw [HN.out] at c0
  obtain ⟨y, hy⟩ : ∃ y, cs.getD i 0 = y := ⟨_, rfl⟩
  rw [hy] at e0 hce
  clear a1 a2 a3 hy
  have hce : ¬ y < bs := by omega
  obtain ⟨D, hown, hD⟩ := H1.out.mp
  obtain ⟨m1, m2⟩ := hD (i : Int) hk
  have HDD := Lib.hid hD
  have hkey := keyOf_int_mk Try.underlying3 hk
  clear hD
  rw [ho2] at m1 m2
  have EN := Lib.hid (enqueue_any lo g bc bw bm N rb cs ws os id bs i w1 H1.out HI.out (HL.out i HI.out))
  go_wp2_with (first | (at_lookup; refine wpList_lookup_own_ok_int _ rfl _ _ 64 rfl 3 3 .i64 law3 Try.underlying64 Try.underlying3 (zero3 _) bm N D rfl hown _ _ rfl hkey ?_; intro c hat hwc) | fail)
  refine EN.out.mono ?_
  rintro e w2 ⟨rfl, rb', q1, q2⟩
  have Q1 := Lib.hid q1
  have Q2 := Lib.hid q2
  clear q1 q2 EN hown
  go_wp2_with fail
  go_ret2
  exact ⟨rfl, rb', Q1.out, X1.out.trans Q2.out⟩
set_option maxRecDepth 100000 in
set_option maxHeartbeats 4000000 in
theorem take_free (lo g bc bw bm N : Nat) (rb : Nat → Nat) (cs : List Int) (ws : Nat → List (Int × Int)) (os : Int → Option Int) (id bs : Int) (i : Nat) (w : World) (h : LV lo w g bc bw bm N rb cs ws os) (hn : cs.length ≤ 16) (hl : ∀ i, i < cs.length → (ws i).length ≤ 900) (hi : i < cs.length) (h0 : 0 ≤ id) (hb : 1 ≤ bs ∧ bs ≤ 63) (hq : NoId ws cs.length id) (hx : (Lit.int .i64 id).wf = true) (hNm : N < maxLen) (ho2 : os (i : Int) = none) (hce : bs ≤ cs.getD i 0) :
    Calls Try.prog 14 #[.pointer (some ⟨g, 0, none⟩), .int .i64 id, .int .i64 bs, .int .i64 (i : Int)] w fun e w' => e = .returned (.tuple #[.bool true, .int .i64 0]) ∧ LV lo w' g bc bw bm (N + 1) rb cs ws (put os i (some id)) ∧ Lx bw bm cs.length rb rb w w' := by
  have H := Lib.hid h
  have HI := Lib.hid hi
  have HL := Lib.hid hl
  have hz : ∀ w : World, (binOp .eql 24 (.pointer (some ⟨g, 0, none⟩)) (.pointer none)).run Try.prog w = .ok (.bool false) w := fun _ => rfl
  have h00 : ¬ id < 0 := by omega
  have HA : Hid (Calls Try.prog 35 #[.pointer (some ⟨g, 0, none⟩), .int .i64 (i : Int)] w fun e w' => e = .returned (.bool true) ∧ w' = w) := by
    obtain ⟨vc, cw, a1, a2, a3⟩ := h.hd
    have := has_any g cw 0 bw vc bm bc cs (i : Int) w a1 a2
    rw [decide_eq_true (by omega)] at this
    exact this
  have HP : Hid (∀ x : World, Calls Try.prog 28 #[.int .i64 bs] x fun e w' => e = .returned (.bool true) ∧ w' = x) := fun x => by
    have := prio_any bs x
    rw [decide_eq_true hb] at this
    exact this
  have WA := Lib.hid (waits_any lo g bc bw bm N rb cs ws os id w h hn (fun i hi => by have := hl i hi; omega))
  have hk : (Lit.int .i64 (i : Int)).wf = true := WalkArith.wf_i64 (by omega)
  have hi0 : (0 : Int) ≤ (i : Int) := by omega
  have hiI : (i : Int) < (cs.length : Int) := by omega
  obtain ⟨n, hnn⟩ : ∃ n, cs.length = n := ⟨_, rfl⟩
  have HN := Lib.hid hnn
  rw [hnn] at hiI
  have ho : os (i : Int) ≠ some id := by rw [ho2]; simp
  rw [show (!decide (NoId ws cs.length id)) = false by simp [hq]] at WA
  clear hq
  clear h hn hl hi hb hnn
  go_enter Try.func14, Try.ntmps14
  go_wp2_with fail
  refine (HP.out _).mono ?_
  rintro e w0 ⟨rfl, hw0⟩
  rw [hw0]
  clear hw0 w0
  go_wp2_with fail
  refine HA.out.mono ?_
  rintro e w0 ⟨rfl, hw0⟩
  rw [hw0]
  clear hw0 w0
  go_wp2_with fail
  refine WA.out.mono ?_
  rintro e w1 ⟨rfl, b1⟩
  have H1 := Lib.hid (H.out.below b1)
  have X1 : Hid (Lx bw bm cs.length rb rb w w1) := Lx.of_below b1
  have B1 := Lib.hid b1
  clear b1 WA HA HP
  have OW : Hid (Calls Try.prog 37 #[.pointer (some ⟨g, 0, none⟩), .int .i64 id, .int .i64 (i : Int)] w1 fun e w' => e = .returned (.bool false) ∧ w' = w1) := by
    obtain ⟨vc, cw, a1, a2, a3⟩ := H1.out.hd
    have := owns_any g bm N vc (.slice (some ⟨bw, 0, none⟩) cs.length cw) os id (i : Int) w1 hk a1 H1.out.mp
    rw [decide_eq_false ho] at this
    exact this
  go_wp2_with fail
  refine OW.out.mono ?_
  rintro e w0 ⟨rfl, hw0⟩
  rw [hw0]
  clear hw0 w0
  clear OW
  clear ho
  obtain ⟨vc, cw, a1, a2, a3⟩ := H1.out.hd
  obtain ⟨⟨cc, hvc⟩, e0, _⟩ := a2.cells i HI.out
  subst hvc
  have c0 : w1.cell? ⟨g, 0, none⟩ = some (.slice (some ⟨bc, 0, none⟩) cs.length cc) := by rw [(row_cell a1 0).1]; rfl
  have c2 : w1.cell? ⟨g, 2, none⟩ = some (.map (some bm)) := by rw [(row_cell a1 2).1]; rfl
  rw [HN.out] at c0
  obtain ⟨y, hy⟩ : ∃ y, cs.getD i 0 = y := ⟨_, rfl⟩
  rw [hy] at e0 hce
  clear a1 a2 a3 hy
  have hce : ¬ y < bs := by omega
  obtain ⟨D, hown, hD⟩ := H1.out.mp
  obtain ⟨m1, m2⟩ := hD (i : Int) hk
  have HDD := Lib.hid hD
  have hkey := keyOf_int_mk Try.underlying3 hk
  clear hD
  rw [ho2] at m1 m2
  go_wp2_with (first
    | (at_lookup; refine wpList_lookup_own_ok_int _ rfl _ _ 64 rfl 3 3 .i64 law3 Try.underlying64 Try.underlying3 (zero3 _) bm N D rfl hown _ _ rfl hkey ?_; intro c hat hwc)
    | (at_mapUpdate; refine wpList_mapUpdate_in _ rfl _ _ _ 64 rfl 3 3 law3 Try.underlying64 _ bm N D rfl hown hNm _ _ _ rfl rfl hkey _ [] (plainElem_int Try.underlying3 hx) ?_; intro w5 hown5 hturn5)
    | fail)
  have h5 := H1.out.owner hturn5 (put_map hk hown.isMap hown5 HDD.out)
  go_ret2
  exact ⟨rfl, h5.1, X1.out.trans h5.2⟩
end Go.Proofs.Ytbnnpfhgpbaedaa.K
