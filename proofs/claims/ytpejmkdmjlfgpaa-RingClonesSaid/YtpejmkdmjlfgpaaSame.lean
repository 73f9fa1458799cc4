/-
  The contracts of SameAll, Clear, begin and do. Each statement bears its own conditions.
-/
import Derived.Test.YtpejmkdmjlfgpaaActs
import Derived.Deep.MidRow
namespace Go.Proofs.Ytpejmkdmjlfgpaa
open Go.RowKit
set_option linter.unusedSimpArgs false
set_option linter.unusedVariables false
theorem sameAll_true (A A' : Option Addr) (c c' : Nat) (L : List (List Int)) (w : World) (Q Q' : Nat → Prop) (ha : RefR w Q A c L) (hb : RefR w Q' A' c' L) (hL : L.length ≤ 1000) (hl : ∀ i, i < L.length → (L.getD i []).length ≤ 1000) :
    Calls Try.prog 12 #[.slice A L.length c, .slice A' L.length c'] w fun e w' => e = .returned (.bool true) ∧ Below w.heap.size w w' := by
  have HA := Lib.hid ha
  have HB := Lib.hid hb
  have HL := Lib.hid hL
  have HLL := Lib.hid hl
  obtain ⟨n, hn⟩ : ∃ n, Hid (L.length = n) := ⟨_, rfl⟩
  rw [hn.out]
  have nb : (n : Int) ≤ 1000 := by rw [← hn.out]; omega
  clear ha hb hL hl
  go_enter Try.func12, Try.ntmps12
  go_wp2_with fail
  go_loopw [5] (fun i wr => ∃ k : Nat, k ≤ n ∧ i = .int .i64 k ∧ Below w.heap.size w wr) (fun i _ => n - (intOf i).toNat)
  case atStart => exact ⟨0, by omega, rfl, Below.refl _ _⟩
  case round =>
    obtain ⟨k, hk, rfl, hb⟩ := hrel
    by_cases hlt : k < n
    · obtain ⟨b1, o1, rfl, p1⟩ := place_row HA.out (by rw [hn.out]; omega)
      obtain ⟨b2, o2, rfl, p2⟩ := place_row HB.out (by rw [hn.out]; omega)
      obtain ⟨v1, h1, s1⟩ := p1 k (by rw [hn.out]; exact hlt)
      obtain ⟨v2, h2, s2⟩ := p2 k (by rw [hn.out]; exact hlt)
      obtain ⟨A1, c1, rfl, _, r1, _⟩ := s1.ex
      obtain ⟨A2, c2, rfl, _, r2, _⟩ := s2.ex
      have lk := HLL.out k (by rw [hn.out]; exact hlt)
      have h1 := cell_later hb h1
      have h2 := cell_later hb h2
      obtain ⟨l, hlk⟩ : ∃ l, L.getD k [] = l := ⟨_, rfl⟩
      rw [hlk] at r1 r2 h1 h2 lk
      obtain ⟨kl, hkl⟩ : ∃ kl, l.length = kl := ⟨_, rfl⟩
      rw [hkl] at r1 r2 h1 h2 lk
      have SM := Lib.hid fun (W : World) (h : Below w.heap.size w W) => same_true A1 A2 kl kl c1 c2 l W _ _ (r1.below h) (r2.below h) (by omega) (by omega)
      have k0 : (0 : Int) ≤ (k : Int) := by omega
      have k1 : (k : Int) < (n : Int) := by omega
      clear p1 p2 s1 s2 r1 r2 lk hlk hkl
      go_wp2_with fail
      refine wp_region_held_drew (S := (fun w' => Below w.heap.size w w' ∧ w'.cell? ⟨b1, o1 + k, none⟩ = some (.slice A1 kl c1) ∧ w'.cell? ⟨b2, o2 + k, none⟩ = some (.slice A2 kl c2))) (by kernel_rfl) ?_ (fun hHeld => ?_)
      · exact ⟨hb.drew, h1, h2⟩
      refine takeD (i := 0) (d := some 17) (v := ?_) _ rfl rfl (by kernel_rfl) (by kernel_rfl) (by kernel_rfl) (fun _ _ _ h => h) (by rfl) ?_ (by assumption) ?_
      rotate_left
      · (intro w hSw; (try dsimp only at hSw); go_simp) <;> with_reducible rfl
      try simp only [Act.put, List.setIfInBounds_toArray, List.set_cons_zero, List.set_cons_succ]
      refine takeD (i := 1) (d := some 18) (v := ?_) _ rfl rfl (by kernel_rfl) (by kernel_rfl) (by kernel_rfl) (fun _ _ _ h => h) (by rfl) ?_ (by assumption) ?_
      rotate_left
      · (intro w hSw; (try dsimp only at hSw); go_simp) <;> with_reducible rfl
      try simp only [Act.put, List.setIfInBounds_toArray, List.set_cons_zero, List.set_cons_succ]
      refine takeD (i := 2) (d := some 19) (v := ?_) _ rfl rfl (by kernel_rfl) (by kernel_rfl) (by kernel_rfl) (fun _ _ _ h => h) (by rfl) ?_ (by assumption) ?_
      rotate_left
      · (intro w hSw; (try dsimp only at hSw); go_simp) <;> with_reducible rfl
      try simp only [Act.put, List.setIfInBounds_toArray, List.set_cons_zero, List.set_cons_succ]
      refine takeD (i := 3) (d := some 20) (v := ?_) _ rfl rfl (by kernel_rfl) (by kernel_rfl) (by kernel_rfl) (fun _ _ _ h => h) (by rfl) ?_ (by assumption) ?_
      rotate_left
      · (intro w hSw; (try dsimp only at hSw); go_simp) <;> with_reducible rfl
      try simp only [Act.put, List.setIfInBounds_toArray, List.set_cons_zero, List.set_cons_succ]
      refine takeD (i := 4) (d := some 21) (v := ?_) _ rfl rfl (by kernel_rfl) (by kernel_rfl) (by kernel_rfl) (fun _ _ _ h => h) (by rfl) ?_ (by assumption) ?_
      rotate_left
      · (intro w hSw; (try dsimp only at hSw); go_simp) <;> with_reducible rfl
      try simp only [Act.put, List.setIfInBounds_toArray, List.set_cons_zero, List.set_cons_succ]
      refine takeD (i := 5) (d := some 22) (v := ?_) _ rfl rfl (by kernel_rfl) (by kernel_rfl) (by kernel_rfl) (fun _ _ _ h => h) (by rfl) ?_ (by assumption) ?_
      rotate_left
      · (intro w hSw; (try dsimp only at hSw); go_simp) <;> with_reducible rfl
      try simp only [Act.put, List.setIfInBounds_toArray, List.set_cons_zero, List.set_cons_succ]
      refine takeD (i := 6) (d := some 23) (v := ?_) _ rfl rfl (by kernel_rfl) (by kernel_rfl) (by kernel_rfl) (fun _ _ _ h => h) (by rfl) ?_ (by assumption) ?_
      rotate_left
      · (intro w hSw; (try dsimp only at hSw); go_simp) <;> with_reducible rfl
      try simp only [Act.put, List.setIfInBounds_toArray, List.set_cons_zero, List.set_cons_succ]
      refine takeD (i := 7) (d := some 24) (v := ?_) _ rfl rfl (by kernel_rfl) (by kernel_rfl) (by kernel_rfl) (fun _ _ _ h => h) (by rfl) ?_ (by assumption) ?_
      rotate_left
      · (intro w hSw; (try dsimp only at hSw); go_simp) <;> with_reducible rfl
      try simp only [Act.put, List.setIfInBounds_toArray, List.set_cons_zero, List.set_cons_succ]
      refine wpAnyH_ready (rs := [8]) (by kernel_rfl) (by simp) ?_
      refine AllReadyH.cons rfl (fun K hK => ?_) AllReadyH.nil
      (go_simp; go_at_call 24; refine (SM.out _ hHeld.1).mono ?_; rintro e w4 ⟨rfl, hb4⟩; try go_wp2_with fail)
      refine hK.out _ _ ?_ (fun hHeld => ?_)
      · exact ⟨hHeld.1.trans (hb4.mono hHeld.1.size), cell_later hb4 hHeld.2.1, cell_later hb4 hHeld.2.2⟩
      clear hK K
      try simp only [Act.put, List.setIfInBounds_toArray, List.set_cons_zero, List.set_cons_succ]
      refine takeD (i := 9) (d := some 26) (v := ?_) _ rfl rfl (by kernel_rfl) (by kernel_rfl) (by kernel_rfl) (fun _ _ _ h => h) (by rfl) ?_ (by assumption) ?_
      rotate_left
      · (intro w hSw; (try dsimp only at hSw); go_simp) <;> with_reducible rfl
      try simp only [Act.put, List.setIfInBounds_toArray, List.set_cons_zero, List.set_cons_succ]
      refine wpAnyH_done (by kernel_rfl) ?_ _
      go_wp2_with fail
      go_roundw
      case rel => first | exact ⟨k + 1, by omega, by go_num, hHeld.1⟩ | ((repeat apply Exists.intro); exact ⟨⟨k + 1, by omega, by go_num, hHeld.1⟩, rfl⟩)
      case measure => simp [intOf]; omega
    · obtain rfl : k = n := by omega
      go_wp2_with fail
      go_ret
      exact ⟨rfl, hb⟩
def clearL (n m : Nat) : List Value := [.int .i64 (n : Int), .int .i64 (m : Int), .int .i64 0, .int .i64 0] ++ List.replicate 32 (.slice none 0 0)
theorem clearL_len (n m : Nat) : (clearL n m).length = 36 := rfl
theorem below_setCells {B : Nat} {a : World} (b : Nat) (hB : B ≤ b) : ∀ (vs : List Value) (o : Nat) (w : World), Below B a w → Below B a (w.setCells b o vs)
  | [], _, _, h => h
  | v :: r, o, w, h => below_setCells b hB r (o + 1) _ (h.setCell (p := ⟨b, o, none⟩) hB v)
theorem past_setCells {g : Nat} {a : World} : ∀ (vs : List Value) (o : Nat) (w : World), Past g a w → Past g a (w.setCells g o vs)
  | [], _, _, h => h
  | v :: r, o, w, h => past_setCells r (o + 1) _ (h.setCell o v)
theorem RingF.there {w : World} {Q : Nat → Prop} {g n m f : Nat} {L : List (List Int)} (h : RingF w Q g n m f L) : w.there g 0 36 := fun j hj => by
  refine ⟨?_, by rw [Nat.zero_add]; exact h.free j⟩
  rw [Nat.zero_add]
  by_cases h0 : j = 0
  · subst h0; rw [h.cell0]; rfl
  by_cases h1 : j = 1
  · subst h1; rw [h.cell1]; rfl
  by_cases h2 : j = 2
  · subst h2; rw [h.cell2]; rfl
  by_cases h3 : j = 3
  · subst h3; rw [h.cell3]; rfl
  have := h.slots (j - 4) (by omega)
  rwa [show 4 + (j - 4) = j by omega] at this
/-- An empty ring is laid over an old one. -/
theorem RingF.cleared {w w' : World} {Q : Nat → Prop} {g n m f : Nat} {L : List (List Int)} (h : RingF w Q g n m f L) (p : Past g w w') (vs : List Value) (hv : w'.rangeAt g 0 vs) (hfz : ∀ i, w'.frozen? ⟨g, i, none⟩ = false) (hl : vs.length = 36)
    (h0 : vs[0]? = some (.int .i64 (n : Int))) (h1 : vs[1]? = some (.int .i64 (m : Int))) (h2 : vs[2]? = some (.int .i64 0)) (h3 : vs[3]? = some (.int .i64 0)) : RingF w' Q g n m 0 [] := by
  have c := fun j v hj => hv j v hj
  simp only [Nat.zero_add] at c
  exact ⟨Nat.lt_of_lt_of_le h.lt p.size, h.nog, h.room, h.words, by have := h.room; omega, by simp, fun i hi => by simp at hi, c 0 _ h0, c 1 _ h1, c 2 _ h2, c 3 _ h3, hfz, fun i hi => by
    rw [c (4 + i) (vs[4 + i]'(by omega)) (List.getElem?_eq_getElem (by omega))]; rfl, fun i hi => by simp at hi⟩
theorem clear_any (w : World) (Q : Nat → Prop) (g n m f : Nat) (L : List (List Int)) (h : RingF w Q g n m f L) :
    Calls Try.prog 18 #[.pointer (some ⟨g, 0, none⟩)] w fun e w' => e = .returned (.tuple #[]) ∧ RingF w' Q g n m 0 [] ∧ Past g w w' := by
  have c0 := h.cell0
  have c1 := h.cell1
  have HR := Lib.hid h
  clear h
  go_enter Try.func18, Try.ntmps18
  go_wp2_with fail
  refine wp_region_held_drew (S := (fun w' => Below g w w' ∧ w'.cell? ⟨g, 0, none⟩ = some (.int .i64 (n : Int)) ∧ w'.cell? ⟨g, 1, none⟩ = some (.int .i64 (m : Int)))) (by kernel_rfl) ?_ (fun hHeld => ?_)
  · exact ⟨(Below.refl _ _).drew, c0, c1⟩
  refine takeD (i := 0) (d := some 4) (v := ?_) _ rfl rfl (by kernel_rfl) (by kernel_rfl) (by kernel_rfl) (fun _ _ _ h => h) (by rfl) ?_ (by assumption) ?_
  rotate_left
  · (intro w hSw; (try dsimp only at hSw); go_simp) <;> with_reducible rfl
  try simp only [Act.put, List.setIfInBounds_toArray, List.set_cons_zero, List.set_cons_succ]
  refine takeD (i := 1) (d := some 5) (v := ?_) _ rfl rfl (by kernel_rfl) (by kernel_rfl) (by kernel_rfl) (fun _ _ _ h => h) (by rfl) ?_ (by assumption) ?_
  rotate_left
  · (intro w hSw; (try dsimp only at hSw); go_simp) <;> with_reducible rfl
  try simp only [Act.put, List.setIfInBounds_toArray, List.set_cons_zero, List.set_cons_succ]
  refine takeD (i := 2) (d := some 6) (v := ?_) _ rfl rfl (by kernel_rfl) (by kernel_rfl) (by kernel_rfl) (fun _ _ _ h => h) (by rfl) ?_ (by assumption) ?_
  rotate_left
  · (intro w hSw; (try dsimp only at hSw); go_simp) <;> with_reducible rfl
  try simp only [Act.put, List.setIfInBounds_toArray, List.set_cons_zero, List.set_cons_succ]
  refine takeD (i := 3) (d := some 7) (v := ?_) _ rfl rfl (by kernel_rfl) (by kernel_rfl) (by kernel_rfl) (fun _ _ _ h => h) (by rfl) ?_ (by assumption) ?_
  rotate_left
  · (intro w hSw; (try dsimp only at hSw); go_simp) <;> with_reducible rfl
  try simp only [Act.put, List.setIfInBounds_toArray, List.set_cons_zero, List.set_cons_succ]
  refine takeD (i := 4) (d := some 8) (v := ?_) _ rfl rfl (by kernel_rfl) (by kernel_rfl) (by kernel_rfl) (fun _ _ _ h => h) (by rfl) ?_ (by assumption) ?_
  rotate_left
  · (intro w hSw; (try dsimp only at hSw); go_simp) <;> with_reducible rfl
  try simp only [Act.put, List.setIfInBounds_toArray, List.set_cons_zero, List.set_cons_succ]
  refine takeD (i := 5) (d := some 9) (v := ?_) _ rfl rfl (by kernel_rfl) (by kernel_rfl) (by kernel_rfl) (fun _ _ _ h => h) (by rfl) ?_ (by assumption) ?_
  rotate_left
  · (intro w hSw; (try dsimp only at hSw); go_simp) <;> with_reducible rfl
  try simp only [Act.put, List.setIfInBounds_toArray, List.set_cons_zero, List.set_cons_succ]
  refine takeD (i := 6) (d := some 10) (v := ?_) _ rfl rfl (by kernel_rfl) (by kernel_rfl) (by kernel_rfl) (fun _ _ _ h => h) (by rfl) ?_ (by assumption) ?_
  rotate_left
  · (intro w hSw; (try dsimp only at hSw); go_simp) <;> with_reducible rfl
  try simp only [Act.put, List.setIfInBounds_toArray, List.set_cons_zero, List.set_cons_succ]
  refine takeD (i := 7) (d := some 11) (v := ?_) _ rfl rfl (by kernel_rfl) (by kernel_rfl) (by kernel_rfl) (fun _ _ _ h => h) (by rfl) ?_ (by assumption) ?_
  rotate_left
  · (intro w hSw; (try dsimp only at hSw); go_simp) <;> with_reducible rfl
  try simp only [Act.put, List.setIfInBounds_toArray, List.set_cons_zero, List.set_cons_succ]
  refine takeD (i := 8) (d := some 12) (v := ?_) _ rfl rfl (by kernel_rfl) (by kernel_rfl) (by kernel_rfl) (fun _ _ _ h => h) (by rfl) ?_ (by assumption) ?_
  rotate_left
  · (intro w hSw; (try dsimp only at hSw); go_simp) <;> with_reducible rfl
  try simp only [Act.put, List.setIfInBounds_toArray, List.set_cons_zero, List.set_cons_succ]
  refine takeD (i := 9) (d := some 13) (v := ?_) _ rfl rfl (by kernel_rfl) (by kernel_rfl) (by kernel_rfl) (fun _ _ _ h => h) (by rfl) ?_ (by assumption) ?_
  rotate_left
  · (intro w hSw; (try dsimp only at hSw); go_simp) <;> with_reducible rfl
  try simp only [Act.put, List.setIfInBounds_toArray, List.set_cons_zero, List.set_cons_succ]
  refine takeD (i := 10) (d := some 14) (v := ?_) _ rfl rfl (by kernel_rfl) (by kernel_rfl) (by kernel_rfl) (fun _ _ _ h => h) (by rfl) ?_ (by assumption) ?_
  rotate_left
  · (intro w hSw; (try dsimp only at hSw); go_simp) <;> with_reducible rfl
  try simp only [Act.put, List.setIfInBounds_toArray, List.set_cons_zero, List.set_cons_succ]
  refine wpAnyH_ready (rs := [11]) (by kernel_rfl) (by simp) ?_
  refine AllReadyH.cons rfl (fun K hK => ?_) AllReadyH.nil
  rw [if_pos (by rfl)]
  have ht : w.drew.there g 0 36 := HR.out.there
  have RA : (w.drew.setCells g 0 (clearL n m)).rangeAt g 0 (clearL n m) := World.rangeAt_setCells_same w.drew g 0 (clearL n m) (by rw [clearL_len]; exact ht)
  refine wp_store_mid 66 (.tmp 14) (.tmp 13) rfl g 0 (clearL n m).toArray rfl rfl ht (by kernel_rfl) (by first | kernel_rfl | simp [Value.oneCell']) ?_
  refine hK.out _ _ ?_ (fun hHeld => ?_)
  · exact ⟨below_setCells g (Nat.le_refl _) _ _ _ (Below.refl _ _).drew, RA 0 _ rfl, RA 1 _ rfl⟩
  clear hK K
  try simp only [Act.put, List.setIfInBounds_toArray, List.set_cons_zero, List.set_cons_succ]
  refine wpAnyH_done (by kernel_rfl) ?_ _
  have FIN := HR.out.cleared (past_setCells (clearL n m) 0 _ (Past.refl g w).drew) (clearL n m) RA (fun i => by rw [World.frozen?_setCells]; exact HR.out.free i) rfl rfl rfl rfl rfl
  have PF := past_setCells (clearL n m) 0 _ (Past.refl g w).drew
  go_wp2_with fail
  go_end0
  exact ⟨rfl, FIN, PF⟩
end Go.Proofs.Ytpejmkdmjlfgpaa
