/-
  Peek, Take, Drop, Change, Priority. Each statement bears its own conditions.
-/
import Derived.Test.YtbkjcjkbicaibaaPut
namespace Go.Proofs.Ytbkjcjkbicaibaa
open Go.RowKit
set_option linter.unusedVariables false
set_option linter.unusedSimpArgs false
/-- The first filled line. -/
structure TopL (Ls : Nat → List Int) (p : Nat) : Prop where
  lt : p < 64
  ne : Ls p ≠ []
  up : ∀ q, p < q → q < 64 → Ls q = []
def EmL (Ls : Nat → List Int) : Prop := ∀ p, p < 64 → Ls p = []
theorem Wd.top {F p : Nat} {Ls : Nat → List Int} (h : Wd F Ls) (t : Top F p) : TopL Ls p := by
  refine ⟨t.lt, fun e => ?_, fun q h1 h2 => ?_⟩
  · have := h p t.lt
    rw [t.bit, e] at this; simp at this
  · have := h q h2
    rw [t.none_ q h1] at this
    simpa using this.symm
theorem Wd.empty {Ls : Nat → List Int} (h : Wd 0 Ls) : EmL Ls := fun p hp => by
  have := h p hp
  rw [Nat.zero_testBit] at this
  simpa using this.symm
/-- What is first. -/
def Pk (Ls : Nat → List Int) (x : Int) (ok : Bool) : Prop := (∃ p L, TopL Ls p ∧ Ls p = x :: L ∧ ok = true) ∨ (EmL Ls ∧ x = 0 ∧ ok = false)
theorem peek_nil (w : World) : Calls Try.prog 24 #[.pointer none] w fun e w' => e = .returned (.tuple #[.int .i64 0, .bool false]) ∧ w' = w := by
  have he : ∀ (w : World), (binOp .eql 23 (.pointer none) (.pointer none)).run Try.prog w = .ok (.bool true) w := fun _ => rfl
  go_enter Try.func24, Try.ntmps24
  go_wp2_with fail
  go_ret2
  exact ⟨rfl, rfl⟩
set_option maxRecDepth 100000 in
set_option maxHeartbeats 2000000 in
theorem peek_any (g : Nat) (rb : Nat → Nat) (Ls : Nat → List Int) (w : World) (h : LF w g rb Ls) (hs : Sm Ls) :
    Calls Try.prog 24 #[.pointer (some ⟨g, 0, none⟩)] w fun e w' => ∃ x ok, e = .returned (.tuple #[.int .i64 x, .bool ok]) ∧ Pk Ls x ok ∧ Below w.heap.size w w' := by
  have he : ∀ (x : Nat) (w : World), (binOp .eql 23 (.pointer (some ⟨x, 0, none⟩)) (.pointer none)).run Try.prog w = .ok (.bool false) w := fun _ _ => rfl
  obtain ⟨F, hx, hw⟩ := h.lx
  have hwc := hx.wc
  have HX := Lib.hid hx
  have HW := Lib.hid hw
  clear h hx hw
  by_cases hF : F = 0
  · subst hF
    have E := Lib.hid HW.out.empty
    go_enter Try.func24, Try.ntmps24
    go_wp2_with fail
    go_ret2
    exact ⟨0, false, rfl, .inr ⟨E.out, rfl, rfl⟩, Below.refl _ _⟩
  · obtain ⟨p, ht⟩ := top_of HX.out.flt hF
    have HT := Lib.hid ht
    have HTL := Lib.hid (HW.out.top ht)
    have hFB : ((F : Int) == 0) = false := by rw [beq_eq_false_iff_ne]; omega
    have hFI : ¬ (F : Int) = 0 := by omega
    obtain ⟨v, hc, hv, _⟩ := HX.out.ln p ht.lt
    have hlen : 0 < (Ls p).length := List.length_pos_iff.2 HTL.out.ne
    obtain ⟨⟨c, rfl⟩, d0, _⟩ := hv.cells 0 hlen
    obtain ⟨x, L, hxl⟩ : ∃ x L, Ls p = x :: L := by
      cases h5 : Ls p with
      | nil => exact absurd h5 HTL.out.ne
      | cons x L => exact ⟨x, L, rfl⟩
    have HXL := Lib.hid hxl
    rw [hxl] at d0 hc
    simp only [List.getD_cons_zero] at d0
    obtain ⟨n, hn⟩ : ∃ n, (x :: L).length = n := ⟨_, rfl⟩
    rw [hn] at hc
    have hn0 : (0 : Int) < (n : Int) := by rw [← hn]; simp
    have hn0N : 0 < n := by omega
    obtain ⟨m, rfl⟩ : ∃ m, n = m + 1 := ⟨n - 1, by omega⟩
    have hpI : (p : Int) < 64 := by have := ht.lt; omega
    clear hF ht hv hlen hxl hn
    go_enter Try.func24, Try.ntmps24
    go_wp2_with fail
    refine wp_region_held_drew (S := (fun w' => Below w.heap.size w w' ∧ w'.cell? ⟨g, 0, none⟩ = some (.int .u64 (F : Int)) ∧ w'.cell? ⟨g, 1 + p, none⟩ = some (.slice (some ⟨rb p, 0, none⟩) (m + 1) c) ∧ w'.cell? ⟨rb p, 0, none⟩ = some (.int .i64 x))) (by kernel_rfl) ?_ (fun hHeld => ?_)
    · exact ⟨(Below.refl _ _).drew, hwc, hc, d0⟩
    refine takeD (i := 0) (d := some 13) (v := ?_) _ rfl rfl (by kernel_rfl) (by kernel_rfl) (by kernel_rfl) (fun _ _ _ h => h) (by rfl) ?_ (by assumption) ?_
    rotate_left
    · (intro w hSw; (try dsimp only at hSw); go_simp) <;> with_reducible rfl
    try simp only [Act.put, List.setIfInBounds_toArray, List.set_cons_zero, List.set_cons_succ]
    refine takeD (i := 1) (d := some 14) (v := ?_) _ rfl rfl (by kernel_rfl) (by kernel_rfl) (by kernel_rfl) (fun _ _ _ h => h) (by rfl) ?_ (by assumption) ?_
    rotate_left
    · (intro w hSw; (try dsimp only at hSw); go_simp) <;> with_reducible rfl
    try simp only [Act.put, List.setIfInBounds_toArray, List.set_cons_zero, List.set_cons_succ]
    refine takeD (i := 2) (d := some 15) (v := ?_) _ rfl rfl (by kernel_rfl) (by kernel_rfl) (by kernel_rfl) (fun _ _ _ h => h) (by rfl) ?_ (by assumption) ?_
    rotate_left
    · (intro w hSw; (try dsimp only at hSw); go_simp) <;> with_reducible rfl
    try simp only [Act.put, List.setIfInBounds_toArray, List.set_cons_zero, List.set_cons_succ]
    refine takeD (i := 3) (d := some 16) (v := ?_) _ rfl rfl (by kernel_rfl) (by kernel_rfl) (by kernel_rfl) (fun _ _ _ h => h) (by rfl) ?_ (by assumption) ?_
    rotate_left
    · (intro w hSw; (try dsimp only at hSw); go_simp) <;> with_reducible rfl
    try simp only [Act.put, List.setIfInBounds_toArray, List.set_cons_zero, List.set_cons_succ]
    refine takeD (i := 4) (d := some 17) (v := ?_) _ rfl rfl (by kernel_rfl) (by kernel_rfl) (by kernel_rfl) (fun _ _ _ h => h) (by rfl) ?_ (by assumption) ?_
    rotate_left
    · (intro w hSw; (try dsimp only at hSw); go_simp) <;> with_reducible rfl
    try simp only [Act.put, List.setIfInBounds_toArray, List.set_cons_zero, List.set_cons_succ]
    refine takeD (i := 6) (d := some 19) (v := ?_) _ rfl rfl (by kernel_rfl) (by kernel_rfl) (by kernel_rfl) (fun _ _ _ h => h) (by rfl) ?_ (by assumption) ?_
    rotate_left
    · (intro w hSw; (try dsimp only at hSw); go_simp) <;> with_reducible rfl
    try simp only [Act.put, List.setIfInBounds_toArray, List.set_cons_zero, List.set_cons_succ]
    refine takeD (i := 7) (d := some 20) (v := ?_) _ rfl rfl (by kernel_rfl) (by kernel_rfl) (by kernel_rfl) (fun _ _ _ h => h) (by rfl) ?_ (by assumption) ?_
    rotate_left
    · (intro w hSw; (try dsimp only at hSw); go_simp) <;> with_reducible rfl
    try simp only [Act.put, List.setIfInBounds_toArray, List.set_cons_zero, List.set_cons_succ]
    refine wpAnyH_ready (rs := [5]) (by kernel_rfl) (by simp) ?_
    refine AllReadyH.cons rfl (fun K hK => ?_) AllReadyH.nil
    go_simp
    go_at_call 33
    refine (first_any F p _ HT.out).mono ?_
    rintro e w2 ⟨rfl, rfl⟩
    try go_wp2_with fail
    refine hK.out _ _ (by assumption) (fun hHeld2 => ?_)
    clear hK K
    try simp only [Act.put, List.setIfInBounds_toArray, List.set_cons_zero, List.set_cons_succ]
    refine takeD (i := 8) (d := some 21) (v := ?_) _ rfl rfl (by kernel_rfl) (by kernel_rfl) (by kernel_rfl) (fun _ _ _ h => h) (by rfl) ?_ (by assumption) ?_
    rotate_left
    · (intro w hSw; (try dsimp only at hSw); go_simp) <;> with_reducible rfl
    try simp only [Act.put, List.setIfInBounds_toArray, List.set_cons_zero, List.set_cons_succ]
    refine takeD (i := 9) (d := some 22) (v := ?_) _ rfl rfl (by kernel_rfl) (by kernel_rfl) (by kernel_rfl) (fun _ _ _ h => h) (by rfl) ?_ (by assumption) ?_
    rotate_left
    · (intro w hSw; (try dsimp only at hSw); go_simp) <;> with_reducible rfl
    try simp only [Act.put, List.setIfInBounds_toArray, List.set_cons_zero, List.set_cons_succ]
    refine takeD (i := 10) (d := some 23) (v := ?_) _ rfl rfl (by kernel_rfl) (by kernel_rfl) (by kernel_rfl) (fun _ _ _ h => h) (by rfl) ?_ (by assumption) ?_
    rotate_left
    · (intro w hSw; (try dsimp only at hSw); go_simp) <;> with_reducible rfl
    try simp only [Act.put, List.setIfInBounds_toArray, List.set_cons_zero, List.set_cons_succ]
    refine takeD (i := 11) (d := some 24) (v := ?_) _ rfl rfl (by kernel_rfl) (by kernel_rfl) (by kernel_rfl) (fun _ _ _ h => h) (by rfl) ?_ (by assumption) ?_
    rotate_left
    · (intro w hSw; (try dsimp only at hSw); go_simp) <;> with_reducible rfl
    try simp only [Act.put, List.setIfInBounds_toArray, List.set_cons_zero, List.set_cons_succ]
    refine takeD (i := 12) (d := some 2) (v := ?_) _ rfl rfl (by kernel_rfl) (by kernel_rfl) (by kernel_rfl) (fun _ _ _ h => h) (by rfl) ?_ (by assumption) ?_
    rotate_left
    · (intro w hSw; (try dsimp only at hSw); go_simp) <;> with_reducible rfl
    try simp only [Act.put, List.setIfInBounds_toArray, List.set_cons_zero, List.set_cons_succ]
    refine takeD (i := 13) (d := some 3) (v := ?_) _ rfl rfl (by kernel_rfl) (by kernel_rfl) (by kernel_rfl) (fun _ _ _ h => h) (by rfl) ?_ (by assumption) ?_
    rotate_left
    · (intro w hSw; (try dsimp only at hSw); go_simp) <;> with_reducible rfl
    try simp only [Act.put, List.setIfInBounds_toArray, List.set_cons_zero, List.set_cons_succ]
    refine wpAnyH_done (by kernel_rfl) ?_ _
    have HB := Lib.hid hHeld.1
    clear hHeld hHeld2
    go_wp2_with fail
    go_ret2
    exact ⟨x, true, rfl, .inl ⟨p, L, HTL.out, HXL.out, rfl⟩, HB.out⟩
theorem take_nil (w : World) : Calls Try.prog 16 #[.pointer none] w fun e w' => e = .returned (.tuple #[.int .i64 0, .bool false]) ∧ w' = w := by
  have PK := Lib.hid (peek_nil w)
  go_enter Try.func16, Try.ntmps16
  go_wp2_with fail
  refine PK.out.mono ?_
  rintro e w' ⟨rfl, rfl⟩
  go_wp2_with fail
  go_ret2
  exact ⟨rfl, rfl⟩
/-- What Take leaves. -/
def Tk (Ls : Nat → List Int) (x : Int) (ok : Bool) (Ls' : Nat → List Int) : Prop := (∃ p L, TopL Ls p ∧ Ls p = x :: L ∧ ok = true ∧ Ls' = upd Ls p L) ∨ (EmL Ls ∧ x = 0 ∧ ok = false ∧ Ls' = Ls)
theorem TopL.uniq {Ls : Nat → List Int} {p q : Nat} (h : TopL Ls p) (k : TopL Ls q) : p = q := by
  rcases Nat.lt_trichotomy p q with h1 | h1 | h1
  · exact absurd (h.up q h1 k.lt) k.ne
  · exact h1
  · exact absurd (k.up p h1 h.lt) h.ne
theorem take_any (g : Nat) (rb : Nat → Nat) (Ls : Nat → List Int) (w : World) (h : LF w g rb Ls) (hs : Sm Ls) :
    Calls Try.prog 16 #[.pointer (some ⟨g, 0, none⟩)] w fun e w' => ∃ x ok Ls', e = .returned (.tuple #[.int .i64 x, .bool ok]) ∧ Tk Ls x ok Ls' ∧ Nx w w' g rb rb Ls' := by
  have PK := Lib.hid (peek_any g rb Ls w h hs)
  have H := Lib.hid h
  have HS := Lib.hid hs
  clear h hs
  go_enter Try.func16, Try.ntmps16
  go_wp2_with fail
  refine PK.out.mono ?_
  rintro e w1 ⟨x, ok, rfl, hk, b1⟩
  have H1 := Lib.hid (H.out.below b1)
  have B1 := Lib.hid b1
  rcases hk with ⟨p, L, ht, hl, rfl⟩ | ⟨hem, rfl, rfl⟩
  · obtain ⟨F, hx, hw⟩ := H1.out.lx
    have hF0 : F ≠ 0 := by
      intro e
      subst e
      exact ht.ne (hw.empty p ht.lt)
    obtain ⟨p', ht'⟩ := top_of hx.flt hF0
    have : p' = p := (hw.top ht').uniq ht
    subst this
    have hwc := hx.wc
    have HT := Lib.hid ht'
    have HTL := Lib.hid ht
    have HLL := Lib.hid hl
    have RM := Lib.hid (rem_any g rb Ls p' 0 w1 H1.out ht.lt (by rw [hl]; simp) (HS.out p' ht.lt))
    clear b1 hx hw hF0 ht' ht hl PK
    go_wp2_with fail
    refine (first_any F p' w1 HT.out).mono ?_
    rintro e w2 ⟨rfl, rfl⟩
    go_wp2_with fail
    refine RM.out.mono ?_
    rintro e w3 ⟨rfl, l3, c3⟩
    have NX : Hid (Nx w w3 g rb rb (upd Ls p' L)) := by
      rw [HLL.out] at l3
      simp only [List.take_zero, List.nil_append, Nat.zero_add, List.drop_succ_cons, List.drop_zero] at l3
      exact (Nx.same H.out B1.out).trans ⟨l3, fun _ _ => .inl rfl, .of_ch c3 HTL.out.lt⟩
    clear l3 c3
    go_wp2_with fail
    go_ret2
    exact ⟨x, true, _, rfl, .inl ⟨p', L, HTL.out, HLL.out, rfl, rfl⟩, NX.out⟩
  · have E := Lib.hid hem
    clear hem b1
    go_wp2_with fail
    go_ret2
    exact ⟨0, false, Ls, rfl, .inr ⟨E.out, rfl, rfl, rfl⟩, Nx.same H.out B1.out⟩
theorem find_nil (id : Int) (w : World) : Calls Try.prog 28 #[.pointer none, .int .i64 id] w fun e w' => e = .returned (.tuple #[.int .i64 0, .int .i64 0, .bool false]) ∧ w' = w := by
  have he : ∀ (w : World), (binOp .eql 23 (.pointer none) (.pointer none)).run Try.prog w = .ok (.bool true) w := fun _ => rfl
  go_enter Try.func28, Try.ntmps28
  go_wp2_with fail
  apply wp_scope_straight
  go_wp2_with fail
  unfold Exit.noGoto
  go_ret3
  exact ⟨rfl, rfl⟩
theorem prio_nil (id : Int) (w : World) : Calls Try.prog 12 #[.pointer none, .int .i64 id] w fun e w' => e = .returned (.tuple #[.int .i64 0, .bool false]) ∧ w' = w := by
  have FD := Lib.hid (find_nil id w)
  go_enter Try.func12, Try.ntmps12
  go_wp2_with fail
  refine FD.out.mono ?_
  rintro e w' ⟨rfl, rfl⟩
  go_wp2_with fail
  go_ret2
  exact ⟨rfl, rfl⟩
/-- An id's priority. -/
def Pr (Ls : Nat → List Int) (id p : Int) (ok : Bool) : Prop := (∃ q : Nat, q < 64 ∧ id ∈ Ls q ∧ p = (q : Int) ∧ ok = true) ∨ ((∀ q, q < 64 → id ∉ Ls q) ∧ p = 0 ∧ ok = false)
theorem getD_mem {L : List Int} {i : Nat} (h : i < L.length) : L.getD i 0 ∈ L := by
  rw [List.getD_eq_getElem?_getD, List.getElem?_eq_getElem h]; exact List.getElem_mem h
theorem prio_any (g : Nat) (rb : Nat → Nat) (Ls : Nat → List Int) (id : Int) (w : World) (h : LF w g rb Ls) (hs : Sm Ls) :
    Calls Try.prog 12 #[.pointer (some ⟨g, 0, none⟩), .int .i64 id] w fun e w' => ∃ p ok, e = .returned (.tuple #[.int .i64 p, .bool ok]) ∧ Pr Ls id p ok ∧ w' = w := by
  have FD := Lib.hid (find_any g rb Ls id w h hs)
  clear h hs
  go_enter Try.func12, Try.ntmps12
  go_wp2_with fail
  refine FD.out.mono ?_
  rintro e w' ⟨hf, rfl⟩
  rcases hf with ⟨p, i, hp, hi, hx, rfl⟩ | ⟨hno, rfl⟩
  · have HPr : Hid (Pr Ls id (p : Int) true) := .inl ⟨p, hp, by rw [← hx]; exact getD_mem hi, rfl, rfl⟩
    clear hp hi hx FD
    go_wp2_with fail
    go_ret2
    exact ⟨_, _, rfl, HPr.out, rfl⟩
  · have HPr : Hid (Pr Ls id 0 false) := .inr ⟨hno, rfl, rfl⟩
    clear hno FD
    go_wp2_with fail
    go_ret2
    exact ⟨_, _, rfl, HPr.out, rfl⟩
theorem drop_nil (id : Int) (w : World) : Calls Try.prog 22 #[.pointer none, .int .i64 id] w fun e w' => e = .returned (.bool false) ∧ w' = w := by
  have FD := Lib.hid (find_nil id w)
  go_enter Try.func22, Try.ntmps22
  go_wp2_with fail
  refine FD.out.mono ?_
  rintro e w' ⟨rfl, rfl⟩
  go_wp2_with fail
  go_ret
  exact ⟨rfl, rfl⟩
/-- What is left without an id. -/
def Dp (Ls : Nat → List Int) (id : Int) (ok : Bool) (Ls' : Nat → List Int) : Prop := (∃ p i, p < 64 ∧ i < (Ls p).length ∧ (Ls p).getD i 0 = id ∧ ok = true ∧ Ls' = upd Ls p ((Ls p).take i ++ (Ls p).drop (i + 1))) ∨ ((∀ q, q < 64 → id ∉ Ls q) ∧ ok = false ∧ Ls' = Ls)
theorem drop_any (g : Nat) (rb : Nat → Nat) (Ls : Nat → List Int) (id : Int) (w : World) (h : LF w g rb Ls) (hs : Sm Ls) :
    Calls Try.prog 22 #[.pointer (some ⟨g, 0, none⟩), .int .i64 id] w fun e w' => ∃ ok Ls', e = .returned (.bool ok) ∧ Dp Ls id ok Ls' ∧ Nx w w' g rb rb Ls' := by
  have FD := Lib.hid (find_any g rb Ls id w h hs)
  have H := Lib.hid h
  have HS := Lib.hid hs
  clear h hs
  go_enter Try.func22, Try.ntmps22
  go_wp2_with fail
  refine FD.out.mono ?_
  rintro e w' ⟨hf, rfl⟩
  rcases hf with ⟨p, i, hp, hi, hx, rfl⟩ | ⟨hno, rfl⟩
  · have RM := Lib.hid (rem_any g rb Ls p i w' H.out hp hi (HS.out p hp))
    have HDp : Hid (Dp Ls id true (upd Ls p ((Ls p).take i ++ (Ls p).drop (i + 1)))) := .inl ⟨p, i, hp, hi, hx, rfl, rfl⟩
    have HP := Lib.hid hp
    clear hp hi hx FD
    go_wp2_with fail
    refine RM.out.mono ?_
    rintro e w3 ⟨rfl, l3, c3⟩
    have NX : Hid (Nx w' w3 g rb rb (upd Ls p ((Ls p).take i ++ (Ls p).drop (i + 1)))) := ⟨l3, fun _ _ => .inl rfl, .of_ch c3 HP.out⟩
    clear l3 c3
    go_wp2_with fail
    go_ret
    exact ⟨_, _, rfl, HDp.out, NX.out⟩
  · have HDp : Hid (Dp Ls id false Ls) := .inr ⟨hno, rfl, rfl⟩
    clear hno FD
    go_wp2_with fail
    go_ret
    exact ⟨_, _, rfl, HDp.out, Nx.same H.out (Below.refl _ _)⟩
theorem change_nil (id pr : Int) (w : World) : Calls Try.prog 23 #[.pointer none, .int .i64 id, .int .i64 pr] w fun e w' => e = .returned (.bool false) ∧ w' = w := by
  have FD := Lib.hid (find_nil id w)
  go_enter Try.func23, Try.ntmps23
  go_wp2_with fail
  refine FD.out.mono ?_
  rintro e w' ⟨rfl, rfl⟩
  go_wp2_with fail
  go_ret
  exact ⟨rfl, rfl⟩
/-- What is left when an id has another priority. -/
def Cg (Ls : Nat → List Int) (id pr : Int) (ok : Bool) (Ls' : Nat → List Int) : Prop :=
  (∃ p i, p < 64 ∧ i < (Ls p).length ∧ (Ls p).getD i 0 = id ∧ ((pr = (p : Int) ∧ ok = true ∧ Ls' = Ls) ∨ (∃ q : Nat, pr = (q : Int) ∧ q < 64 ∧ q ≠ p ∧ ok = true ∧ Ls' = upd (upd Ls p ((Ls p).take i ++ (Ls p).drop (i + 1))) q (Ls q ++ [id])) ∨ (vld pr = false ∧ ok = false ∧ Ls' = Ls))) ∨ ((∀ q, q < 64 → id ∉ Ls q) ∧ ok = false ∧ Ls' = Ls)
set_option maxRecDepth 100000 in
theorem change_any (g : Nat) (rb : Nat → Nat) (Ls : Nat → List Int) (id pr : Int) (w : World) (h : LF w g rb Ls) (hs : ∀ p, p < 64 → (Ls p).length ≤ 999) :
    Calls Try.prog 23 #[.pointer (some ⟨g, 0, none⟩), .int .i64 id, .int .i64 pr] w fun e w' => ∃ ok Ls' rb', e = .returned (.bool ok) ∧ Cg Ls id pr ok Ls' ∧ Nx w w' g rb rb' Ls' := by
  have FD := Lib.hid (find_any g rb Ls id w h (fun p hp => Nat.le_trans (hs p hp) (by omega)))
  have VL := Lib.hid (valid_any pr w)
  have H := Lib.hid h
  have HS := Lib.hid hs
  clear h hs
  go_enter Try.func23, Try.ntmps23
  go_wp2_with fail
  refine FD.out.mono ?_
  rintro e w' ⟨hf, rfl⟩
  rcases hf with ⟨p, i, hp, hi, hx, rfl⟩ | ⟨hno, rfl⟩
  · have HP := Lib.hid hp
    have HI := Lib.hid hi
    have HXX := Lib.hid hx
    clear hp hi hx FD
    obtain ⟨b, hb⟩ : ∃ b, vld pr = b := ⟨_, rfl⟩
    have HBv := Lib.hid hb
    rw [hb] at VL
    clear hb
    go_wp2_with fail
    refine VL.out.mono ?_
    rintro e w1 ⟨rfl, rfl⟩
    cases b with
    | false =>
      go_wp2_with fail
      go_ret
      exact ⟨_, _, rb, rfl, .inl ⟨p, i, HP.out, HI.out, HXX.out, .inr (.inr ⟨HBv.out, rfl, rfl⟩)⟩, Nx.same H.out (Below.refl _ _)⟩
    | true =>
      obtain ⟨q, rfl⟩ : ∃ q : Nat, pr = (q : Int) := by
        have := of_decide_eq_true HBv.out
        exact ⟨pr.toNat, by omega⟩
      have HQ : Hid (q < 64) := by
        have := of_decide_eq_true HBv.out
        unfold Hid; omega
      have hqI : (q : Int) < 64 := by have := HQ.out; omega
      by_cases hpq : p = q
      · subst hpq
        have hB : ((p : Int) != (p : Int)) = false := by simp
        go_wp2_with fail
        go_ret
        exact ⟨_, _, rb, rfl, .inl ⟨p, i, HP.out, HI.out, HXX.out, .inl ⟨rfl, rfl, rfl⟩⟩, Nx.same H.out (Below.refl _ _)⟩
      · have hB : ((p : Int) != (q : Int)) = true := by rw [bne_iff_ne]; omega
        have hB2 : ((p : Int) == (q : Int)) = false := by rw [beq_eq_false_iff_ne]; omega
        have HPQ : Hid (q ≠ p) := fun e => hpq e.symm
        have RM := Lib.hid (rem_any g rb Ls p i w1 H.out HP.out HI.out (Nat.le_trans (HS.out p HP.out) (by omega)))
        go_wp2_with fail
        refine RM.out.mono ?_
        rintro e w3 ⟨rfl, l3, c3⟩
        have NX : Hid (Nx w1 w3 g rb rb (upd Ls p ((Ls p).take i ++ (Ls p).drop (i + 1)))) := ⟨l3, fun _ _ => .inl rfl, .of_ch c3 HP.out⟩
        obtain ⟨L1, hL1⟩ : ∃ L1, upd Ls p ((Ls p).take i ++ (Ls p).drop (i + 1)) = L1 := ⟨_, rfl⟩
        have hLq : Hid (L1 q = Ls q) := by unfold Hid; rw [← hL1, upd_other _ _ HPQ.out]
        rw [hL1] at NX l3
        have HL1 := Lib.hid hL1
        obtain ⟨v, hc, hv, _⟩ := l3.ln q HQ.out
        obtain ⟨A, c, rfl, _⟩ := hv.slice
        have INS := Lib.hid (ins_any g rb L1 id q (L1 q).length w3 l3 HQ.out (Nat.le_refl _) (by rw [hLq.out]; exact HS.out q HQ.out))
        obtain ⟨n, hn⟩ : ∃ n, (L1 q).length = n := ⟨_, rfl⟩
        rw [hn] at INS hc
        have HNn := Lib.hid hn
        clear hv hn l3 c3 hL1 hpq
        go_wp2_with fail
        refine INS.out.mono ?_
        rintro e w4 ⟨r, rfl, l4, r4, c4⟩
        have NX4 : Hid (Nx w1 w4 g rb (upd rb q r) (upd L1 q (Ls q ++ [id]))) := by
          rw [← HNn.out] at l4
          simp only [List.take_length, List.drop_length] at l4
          rw [hLq.out] at l4
          exact NX.out.trans (Nx.of_ch HQ.out l4 r4 c4)
        clear l4 r4 c4
        go_wp2_with fail
        go_ret
        exact ⟨_, _, _, rfl, .inl ⟨p, i, HP.out, HI.out, HXX.out, .inr (.inl ⟨q, rfl, HQ.out, HPQ.out, rfl, by rw [HL1.out]⟩)⟩, NX4.out⟩
  · clear FD
    have HNO := Lib.hid hno
    clear hno
    go_wp2_with fail
    go_ret
    exact ⟨_, _, rb, rfl, .inr ⟨HNO.out, rfl, rfl⟩, Nx.same H.out (Below.refl _ _)⟩
end Go.Proofs.Ytbkjcjkbicaibaa
